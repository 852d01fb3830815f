/-
  The program's layer 7 (fse), by its walk: Encode, Bits. Conditions: as each theorem's premises say (up to ten thousand symbols).
  FseAny (layer 7): the law's function by its walk: true for any numbers, bytes and ints. Premises: what the calls of layers 6, 7 answer.
-/
import Derived.Test.YtbdciiiimdbmkaaGreatGax
import Derived.Test.YtbdciiiimdbmkaaGreatGbd
import Derived.StillTailTactics
import Derived.Deep.RegionHeld3
namespace Go.Proofs.YtbdciiiimdbmkaaGreat
open Go.RowKit

theorem WS.aside {w w' : World} {b N n : Nat} {row : Option Nat} (h : WS w b 0 N n) (hg : w.grownBy w' row) (hr : ∀ r, row = some r → Aside w b r) : WS w' b 0 N n := by
  obtain ⟨p, rest, us, h0, h1, h2, f0, f1, f2, hn, hc, hw⟩ := h
  have hl := hg.block b hn.lt (fun e => (hr b e.symm).1 rfl)
  exact ⟨p, rest, us, (World.cell?_of_block hl).trans h0, (World.cell?_of_block hl).trans h1, (World.cell?_of_block hl).trans h2, (World.frozen?_of_block hl).trans f0, (World.frozen?_of_block hl).trans f1,
    (World.frozen?_of_block hl).trans f2, hn.keep hl, hc.keep (fun g cs hrow => hrow.keep (hg.block g hrow.lt (fun e => (hr g e.symm).2 cs hrow))), hw⟩

set_option maxHeartbeats 400000 in
set_option maxRecDepth 100000 in
theorem eput_any (b : Nat) (W : World) (N n v k : Nat) (hv : v < 2 ^ k) (hk : k ≤ 9) (hn : n ≤ 100000) (h : WS W b 0 N n) :
    Calls Tryz.prog 108 #[.int .i64 (v : Int), .int .i64 (k : Int), .pointer (some ⟨b, 0, none⟩)] W fun e w' => (∃ v, e = .returned v) ∧ WS w' b 0 (N + v * 2 ^ n) (n + k) ∧ W.grownBy w' (some b) := by
  have hv2 : v ≤ 512 := by
    have h1 : 2 ^ k ≤ 2 ^ 9 := Nat.pow_le_pow_right (by omega) hk
    have h2 : (2 : Nat) ^ 9 = 512 := by decide
    omega
  have hp := put_true b 0 N n v k W (by omega) (by omega) (by omega) h
  rw [Nat.mod_eq_of_lt hv] at hp
  have Hp := Lib.hid hp
  clear hp h hv
  go_enter Tryz.func108, Tryz.ntmps108
  go_wp2_with fail
  refine Hp.out.mono ?_
  rintro e w' ⟨rfl, h1, h2⟩
  have H1 := Lib.hid h1
  have H2 := Lib.hid h2
  clear h1 h2
  go_wp2
  go_end0
  exact ⟨⟨_, rfl⟩, H1.out, H2.out⟩

/-- How many bits were put, in a variable's box. -/
def BI (b : Nat) (_ n : Nat) (W : World) : Prop := Boxed W b 3 (.int .i64 (n : Int))
theorem BI.keep {b : Nat} (N n : Nat) (W W' : World) (row : Option Nat) (h : BI b N n W) (hg : W.grownBy W' row) (hr : ∀ r, row = some r → Aside W b r) : BI b N n W' :=
  Boxed.kept h hg (fun e => (hr b e.symm).1 rfl)
set_option maxHeartbeats 400000 in
set_option maxRecDepth 100000 in
theorem ecode_nil (A : Option Addr) (n c : Nat) (pf : Nat) (cap : Value) (w : World) : Calls Tryz.prog 107 #[.pointer none, .slice A n c, .func (.func pf) #[] #[cap]] w fun e w' => e = .returned (.bool false) ∧ Below w.heap.size w w' := by
  obtain ⟨W1, hW1⟩ : ∃ W1, W1 = ((w.alloc (.cells #[.pointer none] 138)).alloc (.cells #[.func (.func pf) #[] #[cap]] 159)).alloc (.cells #[.bool false] 4) := ⟨_, rfl⟩
  have hb : Below w.heap.size w W1 := by rw [hW1]; exact (((Below.refl _ w).alloc (Nat.le_refl _) _).alloc (by simp) _).alloc (by simp; omega) _
  have b3 : Boxed W1 (w.heap.size + 2) 4 (.bool false) := by
    rw [hW1]
    have h := Boxed.new ((w.alloc (.cells #[.pointer none] 138)).alloc (.cells #[.func (.func pf) #[] #[cap]] 159)) 4 (.bool false)
    rw [World.size_alloc, World.size_alloc] at h
    exact h
  have hz := tsize_nil W1
  have Hz := Lib.hid hz
  have HW1 := Lib.hid hW1
  have c3 := b3.cell
  have f3 := b3.frozen
  have hc5 := (b3.set (.bool false)).cell
  have Hb := Lib.hid (hb.setCell (p := ⟨w.heap.size + 2, 0, none⟩) (by simp) (.bool false))
  clear hz hW1 b3 hb
  go_enter Tryz.func107, Tryz.ntmps107
  go_wp2_with fail
  rw [← HW1.out]
  refine Hz.out.mono ?_
  rintro e w' ⟨rfl, rfl⟩
  go_wp2
  refine bodyPost_ret (v := .bool false) (by simp [results, Tryz.f107, go_sem, hc5]) rfl ⟨rfl, Hb.out⟩

set_option maxHeartbeats 400000 in
set_option maxRecDepth 100000 in
theorem eenc_nil (w : World) (A : Option Addr) (n c : Nat) : Calls Tryz.prog 89 #[.pointer none, .slice A n c] w fun e w' => BytesP w' e none ∧ Below w.heap.size w w' := by
  have Hc := Lib.hid (ecode_nil A n c 108 (.pointer (some ⟨w.heap.size, 0, none⟩)) (w.alloc (.cells #[.pointer none, .int .u64 0, .int .i64 0] 77)))
  go_enter Tryz.func89, Tryz.ntmps89
  go_wp2_with fail
  refine Hc.out.mono ?_
  rintro e w' ⟨rfl, hb⟩
  have Hb := Lib.hid (((Below.refl w.heap.size w).alloc (Nat.le_refl _) _).trans (hb.mono (by simp)))
  clear hb
  go_wp2
  go_ret2
  exact ⟨⟨_, _, rfl⟩, Hb.out⟩

set_option maxHeartbeats 1000000 in
set_option maxRecDepth 100000 in
theorem eenc_any (w : World) (p : Addr) (ls : List Nat) (log : Nat) (A : Option Addr) (c : Nat) (syms : List Nat) (hf : Bm.FairN ls log) (ht : STab w p ls log) (hs : syms.length ≤ 10000) (hlt : ∀ x ∈ syms, x < 256) (hr : Reads w A (u8s syms)) :
    Calls Tryz.prog 89 #[.pointer (some p), .slice A syms.length c] w fun e w' => BytesP w' e (Bm.encB ls log syms) ∧ Below w.heap.size w w' := by
  have hal := (Below.refl w.heap.size w).alloc (Nat.le_refl _) (.cells #[.pointer none, .int .u64 0, .int .i64 0] 77)
  have hc := ecode_in 108 (.pointer (some ⟨w.heap.size, 0, none⟩)) (fun N n W => WS W w.heap.size 0 N n) w.heap.size p ls log A c syms w (w.alloc (.cells #[.pointer none, .int .u64 0, .int .i64 0] 77))
    (enters_of Tryz.func108 (by kernel_rfl) rfl) (fun N n W W' row h hg hr => h.aside hg hr) (fun W N n v k h1 h2 h3 h4 => eput_any w.heap.size W N n v k h1 h2 h3 h4) hf ht hs hlt hr hal (Nat.le_refl _) (by simp) (WS.new w 77 (by decide))
  have Hc := Lib.hid hc
  have hl9 := hf.high
  have hcl := Bm.code_lt ls log hf syms
  clear hc ht hlt hr
  unfold Bm.encB
  cases henc : Bm.encR ls log syms with
  | none =>
    have hcn : Bm.codeN ls log syms = none := by unfold Bm.codeN; rw [henc]; rfl
    rw [hcn]
    rw [henc] at Hc
    unfold CodeA at Hc
    dsimp only at Hc
    clear hcl hcn henc hal hf
    go_enter Tryz.func89, Tryz.ntmps89
    go_wp2_with fail
    refine Hc.out.mono ?_
    rintro e w' ⟨rfl, hb⟩
    have Hb := Lib.hid hb
    clear hb
    go_wp2
    go_ret2
    exact ⟨⟨_, _, rfl⟩, Hb.out⟩
  | some t =>
    obtain ⟨N, n, st⟩ := t
    have hcn : Bm.codeN ls log syms = some (N + st * 2 ^ n, n + log) := by unfold Bm.codeN; rw [henc]; rfl
    obtain ⟨k1, k2, k3⟩ := hcl _ _ hcn
    have hn9 : n + log ≤ 100000 := by
      have h1 : log * (syms.length + 1) ≤ 9 * 10001 := Nat.mul_le_mul hl9 (by omega)
      omega
    rw [hcn]
    rw [henc] at Hc
    unfold CodeA at Hc
    dsimp only at Hc
    rw [Option.map_some]
    dsimp only
    clear hcl hcn henc hal hf k2 k3
    generalize N + st * 2 ^ n = M at *
    generalize n + log = m at *
    go_enter Tryz.func89, Tryz.ntmps89
    go_wp2_with fail
    refine Hc.out.mono ?_
    rintro e w' ⟨⟨rfl, hws⟩, hb⟩
    have Hs := Lib.hid (seal_any w.heap.size 0 M m w' (by omega) k1 hws)
    have Hb := Lib.hid hb
    clear hb hws
    go_wp2_with fail
    refine Hs.out.mono ?_
    rintro e w2 ⟨g, cap, rfl, hown, hb2⟩
    obtain ⟨A', c', e', hrd, _⟩ := own_reads hown
    injection e' with e1 e2 e3
    have Hb2 := Lib.hid (Hb.out.trans (hb2.mono Hb.out.size))
    have Hrd := Lib.hid hrd
    rw [← e1] at Hrd
    clear hown hb2 hrd e1 e3 e2
    go_wp2
    go_ret2
    exact ⟨⟨some ⟨g, 0, none⟩, cap, by rw [Bm.sealN_length]; rfl, Hrd.out⟩, Hb2.out⟩

end Go.Proofs.YtbdciiiimdbmkaaGreat

namespace Go.Proofs.YtbdciiiimdbmkaaGreat
open Go.RowKit

/-- What the reference's Decode answers, by the bytes. -/
theorem gdec_code (A B : Option Addr) (c d : Nat) (ls : List Nat) (log : Nat) (bs : List Nat) (n : Int) (w : World) (h : Bm.FairN ls log) (hl : bs.length ≤ 10000) (hn : Bm.IntOk n) (hlt : ∀ x ∈ bs, x < 256) (hr : Reads w A (c3 (Bm.cellsM ls log))) (hs : Reads w B (u8s bs)) :
    (Bm.decB ls log bs n = none ∧ Calls Tryz.prog 67 #[.slice A (2 ^ log) c, .int .i64 (log : Int), .slice B bs.length d, .int .i64 n] w fun e w' => e = .returned (.tuple #[.slice none 0 0, .bool false]) ∧ Below w.heap.size w w') ∨
    ∃ l, Bm.decB ls log bs n = some l ∧ Calls Tryz.prog 67 #[.slice A (2 ^ log) c, .int .i64 (log : Int), .slice B bs.length d, .int .i64 n] w fun e w' => ∃ A' c', e = .returned (.tuple #[.slice A' l.length c', .bool true]) ∧ Reads w' A' (u8s l) ∧ Below w.heap.size w w' := by
  have hx : ∀ r, (Calls Tryz.prog 67 #[.slice A (2 ^ log) c, .int .i64 (log : Int), .slice B bs.length d, .int .i64 n] w fun e w' => DecA w.heap.size w' e r ∧ Below w.heap.size w w') → Bm.decB ls log bs n = r →
      (Bm.decB ls log bs n = none ∧ Calls Tryz.prog 67 #[.slice A (2 ^ log) c, .int .i64 (log : Int), .slice B bs.length d, .int .i64 n] w fun e w' => e = .returned (.tuple #[.slice none 0 0, .bool false]) ∧ Below w.heap.size w w') ∨
      ∃ l, Bm.decB ls log bs n = some l ∧ Calls Tryz.prog 67 #[.slice A (2 ^ log) c, .int .i64 (log : Int), .slice B bs.length d, .int .i64 n] w fun e w' => ∃ A' c', e = .returned (.tuple #[.slice A' l.length c', .bool true]) ∧ Reads w' A' (u8s l) ∧ Below w.heap.size w w' := by
    intro r h1 hd
    cases r with
    | none => exact .inl ⟨hd, h1⟩
    | some l =>
      refine .inr ⟨l, hd, h1.mono ?_⟩
      rintro e w' ⟨⟨u, rfl, ho⟩, hb⟩
      obtain ⟨A', c', rfl, hrd, _⟩ := own_reads ho
      exact ⟨A', c', rfl, hrd, hb⟩
  rcases ropen_bits B d bs w (by omega) hlt hs with ⟨ho, hop⟩ | ⟨M, L, ho, hop⟩
  · refine hx _ (gdec_any A B c d bs.length ls log 0 0 false n w h hn (by omega) (by omega) hr (hop.mono fun e w' ⟨he, hb⟩ => ⟨none, 0, he, Nat.le_refl _, by unfold maxLen; omega, fun hne => absurd rfl hne, hb⟩)) ?_
    unfold Bm.decB Bm.decA
    rw [ho, if_neg (by simp)]
    rfl
  · obtain ⟨hM, _, hL⟩ := Bm.seal_open bs M L hlt ho
    refine hx _ (gdec_any A B c d bs.length ls log M L true n w h hn (by omega) hM hr hop) ?_
    unfold Bm.decB
    rw [ho]
    rfl

end Go.Proofs.YtbdciiiimdbmkaaGreat
