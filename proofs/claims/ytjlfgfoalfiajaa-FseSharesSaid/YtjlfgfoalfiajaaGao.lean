/-
  Layer 7 (fse): the references' Open of any bytes, Seal of any bits, as layer 7's laws ask for them. Conditions: as each theorem's premises say.
  The program's layer 7 (fse), by its walk: code, over whatever put makes of the bits. Conditions: as each theorem's premises say (up to ten thousand symbols).
  The program's layer 7 (fse), by its walk: Encode, Bits. Conditions: as each theorem's premises say (up to ten thousand symbols).
-/
import Derived.Test.YtjlfgfoalfiajaaGam
import Derived.Test.YtjlfgfoalfiajaaGai
import Derived.Test.YtjlfgfoalfiajaaGan
import Derived.Test.YtjlfgfoalfiajaaGak
import Derived.Deep.RegionHeld3
namespace Go.Proofs.Ytjlfgfoalfiajaa
open Go.RowKit

theorem reads_lt {w : World} {g off : Nat} {xs : List Value} (h : Reads w (some ⟨g, off, none⟩) xs) (hne : xs ≠ []) : g < w.heap.size := by
  obtain ⟨g', off', e, hc⟩ := h hne
  injection e with e
  injection e with e1 e2
  subst e1 e2
  have h0 : 0 < xs.length := List.length_pos_iff.2 hne
  have h1 := hc 0 h0
  rw [List.getElem?_eq_getElem h0] at h1
  exact World.block_lt_of_cell? w _ h1
/-- The reference's Open of any bytes. -/
theorem ropen_bits (A : Option Addr) (c : Nat) (bs : List Nat) (w : World) (hl : bs.length ≤ 10000) (hb : ∀ x ∈ bs, x < 256) (hr : Reads w A (u8s bs)) :
    (Bm.openN bs = none ∧ Calls Try.prog 38 #[.slice A bs.length c] w fun e w' => e = .returned (.tuple #[.slice none 0 0, .bool false]) ∧ Below w.heap.size w w') ∨
    ∃ M L, Bm.openN bs = some (M, L) ∧ Calls Try.prog 38 #[.slice A bs.length c] w fun e w' => ∃ A' c', e = .returned (.tuple #[.slice A' L c', .bool true]) ∧ L ≤ c' ∧ c' ≤ maxLen ∧ Reads w' A' (i64s (Bm.bitsOf M L)) ∧ Below w.heap.size w w' := by
  rcases List.eq_nil_or_concat bs with rfl | ⟨front, b, e⟩
  · exact .inl ⟨by simp [Bm.openN], (ropen_empty A c w).mono fun e w' ⟨he, hw⟩ => ⟨he, by subst hw; exact Below.refl _ _⟩⟩
  · rw [List.concat_eq_append] at e
    have hlen : bs.length = front.length + 1 := by rw [e, List.length_append, List.length_singleton]
    have hlast : bs[front.length]'(by omega) = b := by subst e; simp
    have hgl : bs.getLast?.getD 0 = b := by rw [e, List.getLast?_append, List.getLast?_singleton]; rfl
    obtain ⟨g, off, rfl, hc⟩ := reads_u8 hr (by intro h; rw [h] at hlen; simp at hlen)
    have hg := reads_lt hr (by intro h; have := congrArg List.length h; rw [u8s_length, hlen, List.length_nil] at this; omega)
    rcases Nat.eq_zero_or_pos b with h0 | h0
    · refine .inl ⟨by unfold Bm.openN; rw [if_pos (by rw [hgl, h0])], ?_⟩
      have h1 := hc front.length (by omega)
      rw [hlast, h0] at h1
      rw [hlen]
      exact (ropen_zero g off front.length c w (by omega) h1).mono fun e w' ⟨he, hw⟩ => ⟨he, by subst hw; exact Below.refl _ _⟩
    · have hb0 : b ≠ 0 := by omega
      obtain ⟨l1, l8, ht⟩ := Bm.top_last front b (fun x hx => hb x (by rw [e]; exact List.mem_append_left _ hx)) (hb b (by rw [e]; simp)) hb0
      rw [← e] at ht
      have hlg := Bm.top_log2 _ _ ht
      refine .inr ⟨_, _, by unfold Bm.openN; rw [if_neg (by rw [hgl]; exact hb0)], ?_⟩
      rw [hlg]
      generalize 8 * front.length + (Lib.bitLen b - 1) = top at ht
      have htl : top < 8 * (front.length + 1) := by
        have h1 := (Bm.top_iff.1 ht).1
        have h2 := Bm.valB_lt bs hb
        rw [hlen, Bm.p256] at h2
        rcases Nat.lt_or_ge top (8 * (front.length + 1)) with h3 | h3
        · exact h3
        · have := Nat.pow_le_pow_right (n := 2) (by omega) h3
          omega
      rw [hlen]
      refine (ropen_some g off front.length c top bs b w (by omega) hb hb0 hlen hlast hr hg ht htl).mono fun e w' ⟨A', c', he, h1, h2, hrest, hbel⟩ => ⟨A', c', he, h1, h2, ?_, hbel⟩
      intro hne
      have h0 : 0 < top := by
        rcases Nat.eq_zero_or_pos top with h3 | h3
        · subst h3; simp [Bm.bitsOf, i64s] at hne
        · exact h3
      rcases hrest with h3 | ⟨g', off', e', _, _, hcell⟩
      · omega
      · refine ⟨g', off', e', fun j hj => ?_⟩
        rw [i64s_length, Bm.bitsOf_length] at hj
        rw [hcell j hj, i64s_get? _ j (by rw [Bm.bitsOf_length]; exact hj), Bm.bitsOf_get, Bm.mod_digit _ _ _ hj]
/-- The reference's Seal of bits that the call owns. -/
theorem rseal_bits {w : World} {base N n c : Nat} {A : Option Addr} (hn : n ≤ 100000) (hN : N < 2 ^ n) (h : w.ownsRow base 3 1 (.slice A n c) n (i64s (Bm.bitsOf N n))) :
    Calls Try.prog 14 #[.slice A n c] w fun e w' => ∃ A' c', e = .returned (.slice A' (n / 8 + 1) c') ∧ Reads w' A' (u8s (Bm.sealN N n)) ∧ Below w.heap.size w w' := by
  have hx : ∀ e w', (∃ u, e = Ending.returned u ∧ w'.ownsRow w.heap.size 5 1 u (n / 8 + 1) (u8s (Bm.bytesOf (N + 2 ^ n) (n / 8 + 1))) ∧ Below w.heap.size w w') → ∃ A' c', e = .returned (.slice A' (n / 8 + 1) c') ∧ Reads w' A' (u8s (Bm.sealN N n)) ∧ Below w.heap.size w w' := by
    rintro e w' ⟨u, rfl, ho, hb⟩
    obtain ⟨A', c', rfl, hrd, _⟩ := own_reads ho
    exact ⟨A', c', rfl, hrd, hb⟩
  rcases h.2 with ⟨hv, h0⟩ | ⟨g, cap, cur, hv, _⟩
  · injection hv with e1 e2 e3
    subst h0 e1 e3
    obtain rfl : N = 0 := by omega
    exact (rseal_nil w).mono hx
  · obtain ⟨A', c', e, hrd, hA⟩ := own_reads h
    injection e with e1 e2 e3
    subst e1
    injection hv with e1 e2 e3
    subst e1
    exact (rseal_some g 0 n c N w hn hN hrd (hA _ rfl).2.1).mono hx
end Go.Proofs.Ytjlfgfoalfiajaa

namespace Go.Proofs.Ytjlfgfoalfiajaa
open Go.RowKit Go.Shelf
attribute [local go_sem] Oper.semAt_some

/-- Block r is neither b nor a word of a Writer. -/
def Aside (W : World) (b r : Nat) : Prop := r ≠ b ∧ ∀ cs, ¬ Row W r 90 cs

theorem aside_of_box {W : World} {b r : Nat} {t : TypeId} {v : Value} (h : Boxed W r t v) (ht : t ≠ 90) (hr : r ≠ b) : Aside W b r := ⟨hr, fun cs hc => by
  unfold Row at hc
  unfold Boxed at h
  rw [h] at hc
  simp only [Option.some.injEq, Obj.cells.injEq] at hc
  exact ht hc.2.1⟩
theorem aside_of_obj {W : World} {b r : Nat} {o : Obj} (h : W.heap[r]? = some o) (ho : o.isCells = false) (hr : r ≠ b) : Aside W b r := ⟨hr, fun cs hc => by
  unfold Row at hc
  rw [hc] at h
  injection h with h
  subst h
  cases ho⟩

/-- What code answers, over what put makes of the bits. -/
def CodeA (PI : Nat → Nat → World → Prop) (log : Nat) (w' : World) (e : Ending) : Option (Nat × Nat × Nat) → Prop
  | none => e = .returned (.bool false)
  | some (N, n, st) => e = .returned (.bool true) ∧ PI (N + st * 2 ^ n) (n + log) w'

/-- Between two rounds of code's loop: its boxes, what put has made, the state. -/
def CodeI (PI : Nat → Nat → World → Prop) (pf : Nat) (cap : Value) (p : Addr) (ls : List Nat) (log : Nat) (w0 : World) (B0 : Nat) (pre : List PB) (W : World) : Prop :=
  ((Boxed W B0 26 (.pointer (some p)) ∧ Boxed W (B0 + 1) 66 (.func (.func pf) #[] #[cap]) ∧ Boxed W (B0 + 2) 4 (.bool false)) ∧
    ∃ N n st, Bm.encR ls log (PB.syms pre).reverse = some (N, n, st) ∧ Boxed W (B0 + 3) 3 (.int .i64 (st : Int)) ∧ PI N n W) ∧ Below w0.heap.size w0 W ∧ B0 + 5 ≤ W.heap.size
def CodeX (ls : List Nat) (log : Nat) (w0 : World) (B0 : Nat) (c : Code) (pre : List PB) (W : World) : Prop :=
  (c = .ret ∧ Bm.encR ls log (PB.syms pre).reverse = none ∧ Boxed W (B0 + 2) 4 (.bool false)) ∧ Below w0.heap.size w0 W

theorem boxed_far {W W' : World} {B : Nat} {t : TypeId} {v : Value} {row : Option Nat} (h : Boxed W B t v) (hg : W.grownBy W' row) (hr : ∀ r, row = some r → B ≠ r) : Boxed W' B t v :=
  h.kept hg (fun e => hr B e.symm rfl)
theorem codeI_own {PI : Nat → Nat → World → Prop} {pf : Nat} {cap : Value} {p : Addr} {ls : List Nat} {log : Nat} {w0 : World} {B0 b : Nat} (hB : w0.heap.size ≤ B0) (hb : b < B0)
    (hkeep : ∀ N n W W' row, PI N n W → W.grownBy W' row → (∀ r, row = some r → Aside W b r) → PI N n W') : OwnFrom (B0 + 5) (CodeI PI pf cap p ls log w0 B0) := by
  rintro pre W W' row ⟨⟨⟨h1, h2, h3⟩, N, n, st, h4, h5, h6⟩, h7, h8⟩ hg hr
  have hlt : ∀ r, row = some r → B0 + 5 ≤ r := fun r e => (hr r e).1
  refine ⟨⟨⟨boxed_far h1 hg fun r e => by have := hlt r e; omega, boxed_far h2 hg fun r e => by have := hlt r e; omega, boxed_far h3 hg fun r e => by have := hlt r e; omega⟩, N, n, st, h4, boxed_far h5 hg fun r e => by have := hlt r e; omega, hkeep _ _ _ _ _ h6 hg fun r e => ?_⟩, h7.grown hg h7.size fun r e => by have := hlt r e; omega, Nat.le_trans h8 hg.size⟩
  obtain ⟨hr1, o, ho, hc⟩ := hr r e
  exact aside_of_obj ho hc (by omega)
theorem codeX_own {ls : List Nat} {log : Nat} {w0 : World} {B0 : Nat} (hB : w0.heap.size ≤ B0) (c : Code) : OwnFrom (B0 + 5) (CodeX ls log w0 B0 c) := by
  rintro pre W W' row ⟨⟨h1, h2, h3⟩, h7⟩ hg hr
  have hlt : ∀ r, row = some r → B0 + 5 ≤ r := fun r e => (hr r e).1
  exact ⟨⟨h1, h2, boxed_far h3 hg fun r e => by have := hlt r e; omega⟩, h7.grown hg h7.size fun r e => by have := hlt r e; omega⟩

theorem backA_nat (ls : List Nat) (log st s : Nat) (h : st < 2 ^ log) : Bm.backA ls log (st : Int) s = (Bm.backP ls log st s).map fun p => (p, st - Bm.baseAt ls log p, Bm.bitsAt ls log p) := by
  unfold Bm.backA
  rw [if_pos ⟨by omega, by omega⟩, Int.toNat_natCast]
theorem keepB_below {n₀ Bs : Nat} {A B : World} (h : Below A.heap.size A B) (hn : n₀ ≤ A.heap.size) (hb : Bs < A.heap.size) : KeepB n₀ Bs A B := ⟨h.mono hn, h.block Bs hb⟩
theorem keepB_grown {n₀ Bs b : Nat} {A B : World} (h : A.grownBy B (some b)) (hn : n₀ ≤ A.heap.size) (hnb : n₀ ≤ b) (hb : Bs < A.heap.size) (hne : Bs ≠ b) : KeepB n₀ Bs A B :=
  ⟨below_grown h hnb hn, h.block Bs hb (fun e => by injection e with e; exact hne e)⟩
theorem syms_rev (pre : List PB) (x : PB) : (PB.syms (pre ++ [x])).reverse = (x.2 : Nat) :: (PB.syms pre).reverse := by rw [PB.syms_snoc, List.reverse_append]; rfl

set_option maxRecDepth 100000 in
set_option maxHeartbeats 2000000 in
theorem ecode_in (pf : Nat) (cap : Value) (PI : Nat → Nat → World → Prop) (b : Nat) (p : Addr) (ls : List Nat) (log : Nat) (A : Option Addr) (c : Nat) (syms : List Nat) (w0 w : World)
    (hent : ∀ args w, (callFunc pf args).run Try.prog w = .ok (.enter pf args) w)
    (hkeep : ∀ N n W W' row, PI N n W → W.grownBy W' row → (∀ r, row = some r → Aside W b r) → PI N n W')
    (hput : ∀ (W : World) (N n v k : Nat), v < 2 ^ k → k ≤ 9 → n ≤ 100000 → PI N n W → Calls Try.prog pf #[.int .i64 (v : Int), .int .i64 (k : Int), cap] W fun e w' => (∃ v, e = .returned v) ∧ PI (N + v * 2 ^ n) (n + k) w' ∧ W.grownBy w' (some b))
    (hf : Bm.FairN ls log) (ht : STab w0 p ls log) (hs : syms.length ≤ 10000) (hlt : ∀ x ∈ syms, x < 256) (hr : Reads w0 A (u8s syms)) (hw : Below w0.heap.size w0 w) (hb : w0.heap.size ≤ b) (hb2 : b < w.heap.size) (h0 : PI 0 0 w) :
    Calls Try.prog 26 #[.pointer (some p), .slice A syms.length c, .func (.func pf) #[] #[cap]] w fun e w' => CodeA PI log w' e (Bm.encR ls log syms) ∧ Below w0.heap.size w0 w' := by
  have hsz := fun W (hW : Below w0.heap.size w0 W) => tsize_any W p ls log (stab_keep _ _ _ _ _ ht hW)
  have hbk := fun W (hW : Below w0.heap.size w0 W) st s hs => tback_any W p ls log st s hf (stab_keep _ _ _ _ _ ht hW) hs
  have hlg := fun W (hW : Below w0.heap.size w0 W) => tlog_any W p ls log (stab_keep _ _ _ _ _ ht hW)
  have Hsz := Lib.hid hsz
  have Hbk := Lib.hid hbk
  have Hlg := Lib.hid hlg
  have hP := pow_fair log hf.low hf.high
  have Hf := Lib.hid hf
  have Hput := Lib.hid hput
  have Hlt := Lib.hid hlt
  have Hr := Lib.hid hr
  clear hsz hbk hlg hput hf hlt hr ht
  have hB0 := hw.size
  obtain ⟨W1, hW1⟩ : ∃ W1, W1 = ((w.alloc (.cells #[.pointer (some p)] 26)).alloc (.cells #[.func (.func pf) #[] #[cap]] 66)).alloc (.cells #[.bool false] 4) := ⟨_, rfl⟩
  have HW1 := Lib.hid hW1
  have hs1 : W1.heap.size = w.heap.size + 3 := by rw [hW1]; simp
  have b1 : Boxed W1 w.heap.size 26 (.pointer (some p)) := by rw [hW1]; exact ((Boxed.new w _ _).alloc _).alloc _
  have b2 : Boxed W1 (w.heap.size + 1) 66 (.func (.func pf) #[] #[cap]) := by
    rw [hW1]
    have h := Boxed.new (w.alloc (.cells #[.pointer (some p)] 26)) 66 (.func (.func pf) #[] #[cap])
    rw [World.size_alloc] at h
    exact h.alloc _
  have b3 : Boxed W1 (w.heap.size + 2) 4 (.bool false) := by
    rw [hW1]
    have h := Boxed.new ((w.alloc (.cells #[.pointer (some p)] 26)).alloc (.cells #[.func (.func pf) #[] #[cap]] 66)) 4 (.bool false)
    rw [World.size_alloc, World.size_alloc] at h
    exact h
  have hg1 : w.grownBy W1 none := by rw [hW1]; exact grown_alloc (grown_alloc (grown_alloc (grown_refl _ _) _) _) _
  have hw1 : Below w0.heap.size w0 W1 := hw.grown hg1 hw.size (by simp)
  have p1 : PI 0 0 W1 := hkeep _ _ _ _ _ h0 hg1 (by simp)
  have c1 := b1.cell
  have c2 := b2.cell
  have c3 := b3.cell
  have f3 := b3.frozen
  have z1 := Lib.hid (Hsz.out W1 hw1)
  have Hdz : Hid ((((2 ^ log : Nat) : Int) == 0) = false) := Lib.hid (by rw [beq_eq_false_iff_ne]; omega)
  clear hW1
  refine (callsIn_wide (n := 4)).1 ?_
  refine callsIn_of_wp_marks Try.func26 rfl trivial ?_ rfl
  simp only [Try.ntmps26, List.size_toArray, List.length_cons, List.length_nil, Nat.reduceAdd, Nat.reduceSub, Array.replicate_succ, Array.replicate_zero, List.push_toArray, List.append_toArray, List.nil_append, List.cons_append]
  gi_wp2_with fail
  rw [← HW1.out]
  refine ⟨trivial, (callsIn_wide.2 z1.out).mono ?_⟩
  rintro e w' ⟨rfl, rfl⟩
  have dz := Hdz.out
  generalize 2 ^ log = S at *
  gi_wp2_with fail
  refine ⟨trivial, (backward_in Fence.wide 3 trivial rfl A syms.length c _).mono ?_⟩
  rintro e w' ⟨rfl, hW3⟩
  obtain ⟨W3, hW3e⟩ : ∃ W3, W3 = w' := ⟨_, rfl⟩
  have hs2 : (W1.alloc (.cells #[.int .i64 0] 3)).heap.size = w.heap.size + 4 := by rw [World.size_alloc, hs1]
  have hs3 : w'.heap.size = w.heap.size + 5 := by rw [hW3, World.size_alloc, hs2]
  have hg3 : W1.grownBy w' none := by rw [hW3]; exact grown_alloc (grown_alloc (grown_refl _ _) _) _
  have d1 := boxed_far b1 hg3 (by simp)
  have d2 := boxed_far b2 hg3 (by simp)
  have d3 := boxed_far b3 hg3 (by simp)
  have d4 : Boxed w' (w.heap.size + 3) 3 (.int .i64 0) := by
    have h := Boxed.new W1 3 (.int .i64 0)
    rw [hs1] at h
    rw [hW3]
    exact h.alloc _
  have d5 : Boxed w' (w.heap.size + 4) 23 (.slice A syms.length c) := by
    have h := Boxed.new (W1.alloc (.cells #[.int .i64 0] 3)) 23 (.slice A syms.length c)
    rw [hs2] at h
    rw [hW3]
    exact h
  have hw3 : Below w0.heap.size w0 w' := hw1.grown hg3 hw1.size (by simp)
  have p3 : PI 0 0 w' := hkeep _ _ _ _ _ p1 hg3 (by simp)
  rw [hs2]
  clear hW3e hW3 hg3 c1 c2 c3 f3 b1 b2 b3 p1 z1 hg1 HW1
  gi_wp2_with fail
  refine wpIn_rangeFunc_ownG (N := syms.length) (w0 := w') rfl (by omega) (gf := 60) (lb := #[.pointer (some ⟨w.heap.size + 4, 0, none⟩)]) rfl trivial (enters_of Try.func60 (by kernel_rfl) rfl)
    (backward_stops Fence.wide 3 trivial rfl (by omega) (w.heap.size + 4) c A syms Hlt.out (by omega) w0 w' hw3 (by omega) d5.cell Hr.out) (fun h k => KeepB.t h k) (KeepB.b (by omega) (by omega)) (Below.refl _ _) (fun _ => rfl)
    (CodeI PI pf cap p ls log w0 w.heap.size) (CodeX ls log w0 w.heap.size)
    (by rw [hs3]; exact codeI_own hB0 hb2 hkeep) (fun c => by rw [hs3]; exact codeX_own hB0 c)
    ⟨⟨⟨d1, d2, d3⟩, 0, 0, 0, rfl, d4, p3⟩, hw3, by omega⟩
    (fun x => { tmps := #[.pointer (some p), .slice A syms.length c, .func (.func pf) #[] #[cap], .pointer (some ⟨w.heap.size, 0, none⟩), undef, .pointer (some ⟨w.heap.size + 1, 0, none⟩), .pointer (some ⟨w.heap.size + 1 + 1, 0, none⟩), .pointer (some ⟨w.heap.size + 3, 0, none⟩), undef, .int .u8 ((x.2 : Nat) : Int), undef, undef, undef, undef, .pointer (some p), .int .i64 (S : Int), .bool false, .slice A syms.length c, .func (.func 60) #[] #[.pointer (some ⟨w.heap.size + 4, 0, none⟩)], .int .i64 (x.1 : Int), .int .u8 ((x.2 : Nat) : Int), undef, undef, undef, undef, undef, undef, undef, undef, undef, undef, undef, undef, undef, undef, undef, undef, undef, undef, undef, undef, undef], defers := [] }) ?assign ?body ?done ?stop
  case assign =>
    intro l x W K hK
    unfold PB.enc
    gi_wp2
    exact hK
  case body =>
    rintro l pre x W ⟨⟨⟨h1, h2, h3⟩, N, n, st, h4, h5, h6⟩, h7, h8⟩ hlen
    rw [hs3]
    obtain ⟨hN, hst, hnl, _⟩ := Bm.enc_ok ls log Hf.out _ N n st h4
    rw [List.length_reverse, PB.syms_length] at hnl
    have h9 := Hf.out.high
    have hn9 : n ≤ 90000 := by
      have h1 : log * pre.length ≤ 9 * 10000 := Nat.mul_le_mul h9 (by omega)
      omega
    have hrev := syms_rev pre x
    have hBk := Hbk.out W h7 (st : Int) (x.2 : Nat) x.2.isLt
    rw [backA_nat ls log st _ hst] at hBk
    have c1 := h1.cell
    have c4 := h5.cell
    cases hbp : Bm.backP ls log st (x.2 : Nat) with
    | none =>
      have henc : Bm.encR ls log (PB.syms (pre ++ [x])).reverse = none := by
        rw [hrev]
        simp only [Bm.encR]
        rw [h4, Option.bind_some]
        dsimp only
        rw [hbp]
        rfl
      rw [hbp, Option.map_none] at hBk
      unfold backT at hBk
      dsimp only at hBk
      have HB := Lib.hid hBk
      clear hBk
      gi_wp2_with fail
      refine ⟨trivial, (CallsIn.inRound l (callsIn_wide.2 HB.out)).mono ?_⟩
      rintro e W4 ⟨rfl, hb4⟩
      have hg4 := grown_below hb4 none
      have b3 := boxed_far h3 hg4 (by simp)
      have c3 := b3.cell
      have f3 := b3.frozen
      have hs4 := hb4.size
      have hg5 := grownBy_setCell' W4 (w.heap.size + 2) (.bool false)
      have Hout : Hid (KeepsFrom (w.heap.size + 5) W (W4.setCell ⟨w.heap.size + 2, 0, none⟩ (.bool false)) ∧ CodeX ls log w0 w.heap.size .ret (pre ++ [x]) (W4.setCell ⟨w.heap.size + 2, 0, none⟩ (.bool false))) := Lib.hid
        ⟨(KeepsFrom.of_grownBy hg4 (by simp)).trans (KeepsFrom.of_grownBy hg5 (fun j e => by injection e with e; omega)),
          ⟨rfl, henc, b3.set _⟩, (h7.grown hg4 h7.size (by simp)).grown hg5 (by omega) (fun k e => by injection e with e; omega)⟩
      clear hb4 hg4 b3 hg5 henc
      gi_wp2
      exact Hout.out
    | some q =>
      have henc : Bm.encR ls log (PB.syms (pre ++ [x])).reverse = some (N + (st - Bm.baseAt ls log q) * 2 ^ n, n + Bm.bitsAt ls log q, q) := by
        rw [hrev]
        simp only [Bm.encR]
        rw [h4, Option.bind_some]
        dsimp only
        rw [hbp]
        rfl
      obtain ⟨hq, hl1, hl2, hl3⟩ := Bm.back_leads ls log st _ q hbp
      have hbits := Bm.bits_at ls log q Hf.out hq
      have hv : st - Bm.baseAt ls log q < 2 ^ Bm.bitsAt ls log q := by
        generalize 2 ^ Bm.bitsAt ls log q = P at hl3 ⊢
        omega
      rw [hbp, Option.map_some] at hBk
      unfold backT at hBk
      dsimp only at hBk
      have HB := Lib.hid hBk
      clear hBk hl1 hl2 hl3
      generalize st - Bm.baseAt ls log q = v at *
      generalize Bm.bitsAt ls log q = k at *
      gi_wp2_with fail
      refine ⟨trivial, (CallsIn.inRound l (callsIn_wide.2 HB.out)).mono ?_⟩
      rintro e W4 ⟨rfl, hb4⟩
      have hg4 := grown_below hb4 none
      have hs4 := hb4.size
      have b1 := boxed_far h1 hg4 (by simp)
      have b2 := boxed_far h2 hg4 (by simp)
      have b3 := boxed_far h3 hg4 (by simp)
      have b4 := boxed_far h5 hg4 (by simp)
      have c2 := b2.cell
      have p4 := hkeep _ _ _ _ _ h6 hg4 (by simp)
      have HP := Lib.hid (Hput.out W4 N n v k hv (by omega) (by omega) p4)
      clear c1 c4
      gi_wp2_with fail
      refine ⟨trivial, (CallsIn.inRound l (callsIn_wide.2 HP.out)).mono ?_⟩
      rintro e W5 ⟨⟨r5, rfl⟩, p5, hg5⟩
      have hs5 := hg5.size
      have e1 := boxed_far b1 hg5 (fun r e => by injection e with e; omega)
      have e2 := boxed_far b2 hg5 (fun r e => by injection e with e; omega)
      have e3 := boxed_far b3 hg5 (fun r e => by injection e with e; omega)
      have e4 := boxed_far b4 hg5 (fun r e => by injection e with e; omega)
      have c4 := e4.cell
      have f4 := e4.frozen
      have hg6 := grownBy_setCell' W5 (w.heap.size + 3) (.int .i64 (q : Int))
      have hs6 := hg6.size
      have Hout : Hid (KeepsFrom (w.heap.size + 5) W (W5.setCell ⟨w.heap.size + 3, 0, none⟩ (.int .i64 (q : Int))) ∧ KeepB w0.heap.size (w.heap.size + 4) W (W5.setCell ⟨w.heap.size + 3, 0, none⟩ (.int .i64 (q : Int))) ∧
          CodeI PI pf cap p ls log w0 w.heap.size (pre ++ [x]) (W5.setCell ⟨w.heap.size + 3, 0, none⟩ (.int .i64 (q : Int)))) := Lib.hid (by
        refine ⟨((KeepsFrom.of_grownBy hg4 (by simp)).trans (KeepsFrom.of_grownBy hg5 (fun j e => by injection e with e; omega))).trans (KeepsFrom.of_grownBy hg6 (fun j e => by injection e with e; omega)),
          ((keepB_below hb4 (by omega) (by omega)).t (keepB_grown hg5 (by omega) hb (by omega) (by omega))).t (keepB_grown hg6 (by omega) (by omega) (by omega) (by omega)), ⟨⟨?_, ?_, ?_⟩, _, _, q, henc, e4.set _, ?_⟩, ?_, by omega⟩
        · exact boxed_far e1 hg6 (fun r e => by injection e with e; omega)
        · exact boxed_far e2 hg6 (fun r e => by injection e with e; omega)
        · exact boxed_far e3 hg6 (fun r e => by injection e with e; omega)
        · exact hkeep _ _ _ _ _ p5 hg6 (fun r e => by injection e with e; subst e; exact aside_of_box e4 (by decide) (by omega))
        · exact ((h7.grown hg4 h7.size (by simp)).grown hg5 (by omega) (fun k e => by injection e with e; omega)).grown hg6 (by omega) (fun k e => by injection e with e; omega))
      clear hb4 hg4 hg5 hg6 henc b1 b2 b3 b4 e1 e2 e3 e4 c2
      gi_wp2
      exact Hout.out
  case done =>
    rintro D ys W hD hys ⟨⟨⟨h1, h2, h3⟩, N, n, st, h4, h5, h6⟩, h7, h8⟩ hK
    rw [hys, List.reverse_reverse] at h4
    obtain ⟨hN, hst, hnl, _⟩ := Bm.enc_ok ls log Hf.out _ N n st h4
    have h9 := Hf.out.high
    have hn9 : n ≤ 90000 := by
      have h1 : log * syms.length ≤ 9 * 10000 := Nat.mul_le_mul h9 (by omega)
      omega
    have c1 := h1.cell
    have c2 := h2.cell
    have c4 := h5.cell
    have hL := Lib.hid (Hlg.out W h7)
    have HP := Lib.hid (Hput.out W N n st log hst h9 (by omega) h6)
    gi_wp2
    refine wpIn_wide.2 ?_
    have p6 : PI N n W.drew := hkeep _ _ _ _ _ h6 (grown_drew (grown_refl _ none)) (by simp)
    have HL := Lib.hid (Hlg.out W.drew h7.drew)
    have HP := Lib.hid (Hput.out W.drew N n st log hst h9 (by omega) p6)
    go_region_held3 (fun W' => W'.cell? ⟨w.heap.size, 0, none⟩ = some (.pointer (some p)) ∧ W'.cell? ⟨w.heap.size + 1, 0, none⟩ = some (.func (.func pf) #[] #[cap]) ∧ W'.cell? ⟨w.heap.size + 3, 0, none⟩ = some (.int .i64 (st : Int))) (first | exact ⟨c1, c2, c4⟩ | exact ⟨d1, d2, d4⟩) (first
      | (go_at_call 34; (with_reducible refine HL.out.mono ?_); rintro e w' ⟨rfl, rfl⟩)
      | ((with_reducible refine HP.out.mono ?_); rintro e W9 ⟨⟨r9, rfl⟩, p9, hg9⟩; have e1 := Lib.hid (boxed_far h1 (W := W.drew) hg9 (fun r e => by injection e with e; omega)); have e2 := Lib.hid (boxed_far h2 (W := W.drew) hg9 (fun r e => by injection e with e; omega)); have e3 := Lib.hid (boxed_far h3 (W := W.drew) hg9 (fun r e => by injection e with e; omega)); have e4 := Lib.hid (boxed_far h5 (W := W.drew) hg9 (fun r e => by injection e with e; omega)); have d1 := e1.out.cell; have d2 := e2.out.cell; have d4 := e4.out.cell))
    have hd9 : W9.heap.size ≥ W.heap.size := hg9.size
    have hK9 : W9.heap[D]? = some (.deferred (some [])) := (hg9.block D (Array.getElem?_eq_some_iff.1 hK).1 (fun e => by injection e with e; omega)).trans hK
    have hg10 := grownBy_setCell' W9 (w.heap.size + 2) (.bool true)
    have hK10 : (W9.setCell ⟨w.heap.size + 2, 0, none⟩ (.bool true)).heap[D]? = some (.deferred (some [])) := (hg10.block D (Array.getElem?_eq_some_iff.1 hK9).1 (fun e => by injection e with e; omega)).trans hK9
    have p10 := hkeep _ _ _ _ _ p9 hg10 (fun r e => by injection e with e; subst e; exact aside_of_box e3.out (by decide) (by omega))
    have hb10 : Below w0.heap.size w0 (W9.setCell ⟨w.heap.size + 2, 0, none⟩ (.bool true)) := ((h7.drew.grown hg9 h7.size (fun k e => by injection e with e; omega)).grown hg10 (Nat.le_trans h7.size hd9) (fun k e => by injection e with e; omega))
    have c3 := e3.out.cell
    have f3 := e3.out.frozen
    have hc5 := cell_kept (e3.out.set (.bool true)).cell (grownBy_putObj' _ D (.deferred none)) (fun r e => by cases e; exact ⟨_, hK10, rfl⟩)
    have HK10 := Lib.hid hK10
    have Hc5 := Lib.hid hc5
    have Hb10 := Lib.hid hb10
    have P10 := Lib.hid p10
    clear hK9 hK10 hc5 hg10 hg9 p10 p9 hb10 d1 d2 d4 c1 c2 c4
    gi_wp2
    refine ⟨by simp, .inl ⟨_, _, rfl, run_takeDeferred HK10.out, ?_⟩⟩
    have hc5 := Hc5.out
    refine ⟨.bool true, ?_, ?_, Hb10.out.trans (belowK_b (w := w) (by omega) _ D _ _ (by omega) HK10.out rfl rfl)⟩
    · simp [results, Try.f26, go_sem, hc5]
    · rw [h4]
      exact ⟨rfl, hkeep _ _ _ _ _ P10.out (grownBy_putObj' _ D (.deferred none)) (fun r e => by cases e; exact aside_of_obj HK10.out rfl (by omega))⟩
  case stop =>
    rintro D c pre W hD hpre ⟨⟨rfl, h2, h3⟩, h7⟩ hK
    have henc : Bm.encR ls log syms = none := by
      obtain ⟨t, ht⟩ := hpre
      have h := congrArg List.reverse ht
      rw [List.reverse_append, List.reverse_reverse] at h
      rw [← h]
      exact enc_append_none ls log _ h2 _
    gi_wp2
    refine ⟨by simp, .inl ⟨_, _, rfl, run_takeDeferred hK, ?_⟩⟩
    have hc5 := cell_kept h3.cell (grownBy_putObj' _ D (.deferred none)) (fun r e => by cases e; exact ⟨_, hK, rfl⟩)
    refine ⟨.bool false, ?_, by rw [henc]; rfl, h7.trans (belowK_b (w := w) (by omega) _ D _ _ (by omega) hK rfl rfl)⟩
    simp [results, Try.f26, go_sem, hc5]
end Go.Proofs.Ytjlfgfoalfiajaa

namespace Go.Proofs.Ytjlfgfoalfiajaa
open Go.RowKit

theorem WS.aside {w w' : World} {b N n : Nat} {row : Option Nat} (h : WS w b 0 N n) (hg : w.grownBy w' row) (hr : ∀ r, row = some r → Aside w b r) : WS w' b 0 N n := by
  obtain ⟨p, rest, us, h0, h1, h2, f0, f1, f2, hn, hc, hw⟩ := h
  have hl := hg.block b hn.lt (fun e => (hr b e.symm).1 rfl)
  exact ⟨p, rest, us, (World.cell?_of_block hl).trans h0, (World.cell?_of_block hl).trans h1, (World.cell?_of_block hl).trans h2, (World.frozen?_of_block hl).trans f0, (World.frozen?_of_block hl).trans f1,
    (World.frozen?_of_block hl).trans f2, hn.keep hl, hc.keep (fun g cs hrow => hrow.keep (hg.block g hrow.lt (fun e => (hr g e.symm).2 cs hrow))), hw⟩

set_option maxHeartbeats 400000 in
set_option maxRecDepth 100000 in
theorem eput_any (b : Nat) (W : World) (N n v k : Nat) (hv : v < 2 ^ k) (hk : k ≤ 9) (hn : n ≤ 100000) (h : WS W b 0 N n) :
    Calls Try.prog 27 #[.int .i64 (v : Int), .int .i64 (k : Int), .pointer (some ⟨b, 0, none⟩)] W fun e w' => (∃ v, e = .returned v) ∧ WS w' b 0 (N + v * 2 ^ n) (n + k) ∧ W.grownBy w' (some b) := by
  have hv2 : v ≤ 512 := by
    have h1 : 2 ^ k ≤ 2 ^ 9 := Nat.pow_le_pow_right (by omega) hk
    have h2 : (2 : Nat) ^ 9 = 512 := by decide
    omega
  have hp := put_true b 0 N n v k W (by omega) (by omega) (by omega) h
  rw [Nat.mod_eq_of_lt hv] at hp
  have Hp := Lib.hid hp
  clear hp h hv
  go_enter Try.func27, Try.ntmps27
  go_wp2_with fail
  refine Hp.out.mono ?_
  rintro e w' ⟨rfl, h1, h2⟩
  have H1 := Lib.hid h1
  have H2 := Lib.hid h2
  clear h1 h2
  go_wp2
  go_end0
  exact ⟨⟨_, rfl⟩, H1.out, H2.out⟩

/-- How many bits were put, in a variable's box. -/
def BI (b : Nat) (_ n : Nat) (W : World) : Prop := Boxed W b 3 (.int .i64 (n : Int))
theorem BI.keep {b : Nat} (N n : Nat) (W W' : World) (row : Option Nat) (h : BI b N n W) (hg : W.grownBy W' row) (hr : ∀ r, row = some r → Aside W b r) : BI b N n W' :=
  Boxed.kept h hg (fun e => (hr b e.symm).1 rfl)
set_option maxHeartbeats 400000 in
set_option maxRecDepth 100000 in
theorem ebit_any (b : Nat) (W : World) (N n v k : Nat) (hk : k ≤ 9) (hn : n ≤ 100000) (h : BI b N n W) :
    Calls Try.prog 30 #[.int .i64 (v : Int), .int .i64 (k : Int), .pointer (some ⟨b, 0, none⟩)] W fun e w' => (∃ v, e = .returned v) ∧ BI b (N + v * 2 ^ n) (n + k) w' ∧ W.grownBy w' (some b) := by
  have c0 := Boxed.cell h
  have f0 := Boxed.frozen h
  have hs := Lib.hid (Boxed.set (.int .i64 ((n + k : Nat) : Int)) h)
  have hg := Lib.hid (grownBy_setCell' W b (.int .i64 ((n + k : Nat) : Int)))
  clear h
  go_enter Try.func30, Try.ntmps30
  go_wp2
  go_end0
  exact ⟨⟨_, rfl⟩, by unfold BI; simpa using hs.out, by simpa using hg.out⟩

set_option maxHeartbeats 400000 in
set_option maxRecDepth 100000 in
theorem ecode_nil (A : Option Addr) (n c : Nat) (pf : Nat) (cap : Value) (w : World) : Calls Try.prog 26 #[.pointer none, .slice A n c, .func (.func pf) #[] #[cap]] w fun e w' => e = .returned (.bool false) ∧ Below w.heap.size w w' := by
  obtain ⟨W1, hW1⟩ : ∃ W1, W1 = ((w.alloc (.cells #[.pointer none] 26)).alloc (.cells #[.func (.func pf) #[] #[cap]] 66)).alloc (.cells #[.bool false] 4) := ⟨_, rfl⟩
  have hb : Below w.heap.size w W1 := by rw [hW1]; exact (((Below.refl _ w).alloc (Nat.le_refl _) _).alloc (by simp) _).alloc (by simp; omega) _
  have b3 : Boxed W1 (w.heap.size + 2) 4 (.bool false) := by
    rw [hW1]
    have h := Boxed.new ((w.alloc (.cells #[.pointer none] 26)).alloc (.cells #[.func (.func pf) #[] #[cap]] 66)) 4 (.bool false)
    rw [World.size_alloc, World.size_alloc] at h
    exact h
  have hz := tsize_nil W1
  have Hz := Lib.hid hz
  have HW1 := Lib.hid hW1
  have c3 := b3.cell
  have f3 := b3.frozen
  have hc5 := (b3.set (.bool false)).cell
  have Hb := Lib.hid (hb.setCell (p := ⟨w.heap.size + 2, 0, none⟩) (by simp) (.bool false))
  clear hz hW1 b3 hb
  go_enter Try.func26, Try.ntmps26
  go_wp2_with fail
  rw [← HW1.out]
  refine Hz.out.mono ?_
  rintro e w' ⟨rfl, rfl⟩
  go_wp2
  refine bodyPost_ret (v := .bool false) (by simp [results, Try.f26, go_sem, hc5]) rfl ⟨rfl, Hb.out⟩

set_option maxHeartbeats 400000 in
set_option maxRecDepth 100000 in
theorem eenc_nil (w : World) (A : Option Addr) (n c : Nat) : Calls Try.prog 11 #[.pointer none, .slice A n c] w fun e w' => BytesP w' e none ∧ Below w.heap.size w w' := by
  have Hc := Lib.hid (ecode_nil A n c 27 (.pointer (some ⟨w.heap.size, 0, none⟩)) (w.alloc (.cells #[.pointer none, .int .u64 0, .int .i64 0] 63)))
  go_enter Try.func11, Try.ntmps11
  go_wp2_with fail
  refine Hc.out.mono ?_
  rintro e w' ⟨rfl, hb⟩
  have Hb := Lib.hid (((Below.refl w.heap.size w).alloc (Nat.le_refl _) _).trans (hb.mono (by simp)))
  clear hb
  go_wp2
  go_ret2
  exact ⟨⟨_, _, rfl⟩, Hb.out⟩

set_option maxHeartbeats 1000000 in
set_option maxRecDepth 100000 in
theorem eenc_any (w : World) (p : Addr) (ls : List Nat) (log : Nat) (A : Option Addr) (c : Nat) (syms : List Nat) (hf : Bm.FairN ls log) (ht : STab w p ls log) (hs : syms.length ≤ 10000) (hlt : ∀ x ∈ syms, x < 256) (hr : Reads w A (u8s syms)) :
    Calls Try.prog 11 #[.pointer (some p), .slice A syms.length c] w fun e w' => BytesP w' e (Bm.encB ls log syms) ∧ Below w.heap.size w w' := by
  have hal := (Below.refl w.heap.size w).alloc (Nat.le_refl _) (.cells #[.pointer none, .int .u64 0, .int .i64 0] 63)
  have hc := ecode_in 27 (.pointer (some ⟨w.heap.size, 0, none⟩)) (fun N n W => WS W w.heap.size 0 N n) w.heap.size p ls log A c syms w (w.alloc (.cells #[.pointer none, .int .u64 0, .int .i64 0] 63))
    (enters_of Try.func27 (by kernel_rfl) rfl) (fun N n W W' row h hg hr => h.aside hg hr) (fun W N n v k h1 h2 h3 h4 => eput_any w.heap.size W N n v k h1 h2 h3 h4) hf ht hs hlt hr hal (Nat.le_refl _) (by simp) (WS.new w 63 (by decide))
  have Hc := Lib.hid hc
  have hl9 := hf.high
  have hcl := Bm.code_lt ls log hf syms
  clear hc ht hlt hr
  unfold Bm.encB
  cases henc : Bm.encR ls log syms with
  | none =>
    have hcn : Bm.codeN ls log syms = none := by unfold Bm.codeN; rw [henc]; rfl
    rw [hcn]
    rw [henc] at Hc
    unfold CodeA at Hc
    dsimp only at Hc
    clear hcl hcn henc hal hf
    go_enter Try.func11, Try.ntmps11
    go_wp2_with fail
    refine Hc.out.mono ?_
    rintro e w' ⟨rfl, hb⟩
    have Hb := Lib.hid hb
    clear hb
    go_wp2
    go_ret2
    exact ⟨⟨_, _, rfl⟩, Hb.out⟩
  | some t =>
    obtain ⟨N, n, st⟩ := t
    have hcn : Bm.codeN ls log syms = some (N + st * 2 ^ n, n + log) := by unfold Bm.codeN; rw [henc]; rfl
    obtain ⟨k1, k2, k3⟩ := hcl _ _ hcn
    have hn9 : n + log ≤ 100000 := by
      have h1 : log * (syms.length + 1) ≤ 9 * 10001 := Nat.mul_le_mul hl9 (by omega)
      omega
    rw [hcn]
    rw [henc] at Hc
    unfold CodeA at Hc
    dsimp only at Hc
    rw [Option.map_some]
    dsimp only
    clear hcl hcn henc hal hf k2 k3
    generalize N + st * 2 ^ n = M at *
    generalize n + log = m at *
    go_enter Try.func11, Try.ntmps11
    go_wp2_with fail
    refine Hc.out.mono ?_
    rintro e w' ⟨⟨rfl, hws⟩, hb⟩
    have Hs := Lib.hid (seal_any w.heap.size 0 M m w' (by omega) k1 hws)
    have Hb := Lib.hid hb
    clear hb hws
    go_wp2_with fail
    refine Hs.out.mono ?_
    rintro e w2 ⟨g, cap, rfl, hown, hb2⟩
    obtain ⟨A', c', e', hrd, _⟩ := own_reads hown
    injection e' with e1 e2 e3
    have Hb2 := Lib.hid (Hb.out.trans (hb2.mono Hb.out.size))
    have Hrd := Lib.hid hrd
    rw [← e1] at Hrd
    clear hown hb2 hrd e1 e3 e2
    go_wp2
    go_ret2
    exact ⟨⟨some ⟨g, 0, none⟩, cap, by rw [Bm.sealN_length]; rfl, Hrd.out⟩, Hb2.out⟩

set_option maxHeartbeats 1000000 in
set_option maxRecDepth 100000 in
theorem ebits_any (w : World) (p : Addr) (ls : List Nat) (log : Nat) (A : Option Addr) (c : Nat) (syms : List Nat) (hf : Bm.FairN ls log) (ht : STab w p ls log) (hs : syms.length ≤ 10000) (hlt : ∀ x ∈ syms, x < 256) (hr : Reads w A (u8s syms)) :
    Calls Try.prog 12 #[.pointer (some p), .slice A syms.length c] w fun e w' => e = .returned (bitsV (Bm.codeN ls log syms)) ∧ Below w.heap.size w w' := by
  have hal := (Below.refl w.heap.size w).alloc (Nat.le_refl _) (.cells #[.int .i64 0] 3)
  have hc := ecode_in 30 (.pointer (some ⟨w.heap.size, 0, none⟩)) (BI w.heap.size) w.heap.size p ls log A c syms w (w.alloc (.cells #[.int .i64 0] 3))
    (enters_of Try.func30 (by kernel_rfl) rfl) BI.keep (fun W N n v k _ h2 h3 h4 => ebit_any w.heap.size W N n v k h2 h3 h4) hf ht hs hlt hr hal (Nat.le_refl _) (by simp) (Boxed.new w _ _)
  have Hc := Lib.hid hc
  clear hc ht hlt hr
  cases henc : Bm.encR ls log syms with
  | none =>
    have hcn : Bm.codeN ls log syms = none := by unfold Bm.codeN; rw [henc]; rfl
    rw [hcn]
    rw [henc] at Hc
    unfold CodeA at Hc
    dsimp only at Hc
    clear hcn henc hal hf
    go_enter Try.func12, Try.ntmps12
    go_wp2_with fail
    refine Hc.out.mono ?_
    rintro e w' ⟨rfl, hb⟩
    have Hb := Lib.hid hb
    clear hb
    go_wp2
    go_ret2
    exact ⟨rfl, Hb.out⟩
  | some t =>
    obtain ⟨N, n, st⟩ := t
    have hcn : Bm.codeN ls log syms = some (N + st * 2 ^ n, n + log) := by unfold Bm.codeN; rw [henc]; rfl
    rw [hcn]
    rw [henc] at Hc
    unfold CodeA at Hc
    dsimp only at Hc
    clear hcn henc hal hf
    generalize n + log = m at *
    go_enter Try.func12, Try.ntmps12
    go_wp2_with fail
    refine Hc.out.mono ?_
    rintro e w' ⟨⟨rfl, hws⟩, hb⟩
    have c0 := Boxed.cell hws
    have Hb := Lib.hid hb
    clear hb hws
    go_wp2
    go_ret2
    exact ⟨rfl, Hb.out⟩
end Go.Proofs.Ytjlfgfoalfiajaa
