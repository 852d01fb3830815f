/-
  Bytes of a Writer, NewReader, and fill (layer 1), by their walks: a Writer's bits as bytes in a new block. Conditions: as each theorem's premises say (up to a thousand million bits).
  NewReader and Take (layer 1), by their walks: a Reader's bits, read from the first one on. Conditions: as each theorem's premises say (up to a hundred million bytes).
  Contracts of layer 1 over whole numbers that are told as such (Int), and a row as a slice that reads. Conditions: as each theorem's premises say.
  Layer 2 (back): a Reader from the end in memory; Left, Take, each by its walk. Conditions: as each theorem's premises say (up to a hundred million bytes).
  A slice of ints that reads as the bits of a number, its first and its last ones, and what Number makes of it (layer 1). Conditions: as each theorem's premises say.
-/
import Derived.Test.YtbdciiiimdbmkaaGreatGae
import Derived.Test.YtbdciiiimdbmkaaGreatGaa
import Derived.StillTailTactics
namespace Go.Proofs.YtbdciiiimdbmkaaGreat
open Go.RowKit

set_option maxHeartbeats 400000 in
set_option maxRecDepth 100000 in
theorem fill_none (A : Option Addr) (c : Nat) (v : Int) (w : World) :
    Calls Tryz.prog 59 #[.slice A 0 c, .int .u64 v] w fun e w' => e = .returned (.tuple #[]) ∧ w = w' := by
  go_enter Tryz.func59, Tryz.ntmps59
  go_wp2
  go_loop [8] (fun i => i = .int .i64 0) (fun _ => 0)
  case atStart => rfl
  case round =>
    obtain rfl := hrel
    go_wp2
    go_end0
    exact ⟨rfl, rfl⟩

theorem row_fill {w : World} {g off k v : Nat} {cs : List Nat} (hl : off + k < cs.length) (h : Row w g 5 (u8s (Bm.fillB cs off k v))) :
    Row (w.setCell ⟨g, off + k, none⟩ (.int .u8 ((v / 256 ^ k % 256 : Nat) : Int))) g 5 (u8s (Bm.fillB cs off (k + 1) v)) := by
  have h1 := h.set_ (off + k) (.int .u8 ((v / 256 ^ k % 256 : Nat) : Int))
  rw [u8s_set, Bm.fillB_step _ _ _ _ hl] at h1
  exact h1

set_option maxHeartbeats 400000 in
set_option maxRecDepth 100000 in
theorem fill_some (g off len c v : Nat) (cs : List Nat) (w : World) (hl : off + len ≤ cs.length) (hcl : cs.length ≤ 1000000000) (hr : Row w g 5 (u8s cs)) :
    Calls Tryz.prog 59 #[.slice (some ⟨g, off, none⟩) len c, .int .u64 (v : Int)] w fun e w' => e = .returned (.tuple #[]) ∧ Row w' g 5 (u8s (Bm.fillB cs off (min len 8) v)) ∧ w.grownBy w' (some g) := by
  obtain ⟨m, hm⟩ : ∃ m, m = min len 8 := ⟨_, rfl⟩
  have hm8 : m ≤ 8 := by omega
  have hml : m ≤ len := by omega
  have hmin : Hid ((min (len : Int) 8) = (m : Int)) := by unfold Hid; omega
  rw [← hm]
  clear hm
  go_enter Tryz.func59, Tryz.ntmps59
  go_wp2
  rw [hmin.out]
  go_loopw [8] (fun i wr => ∃ k : Nat, k ≤ m ∧ i = .int .i64 (k : Int) ∧ Row wr g 5 (u8s (Bm.fillB cs off k v)) ∧ w.grownBy wr (some g)) (fun i _ => m - (intOf i).toNat)
  case atStart => exact ⟨0, Nat.zero_le _, rfl, by rw [Bm.fillB_zero]; exact hr, grown_refl _ _⟩
  case round =>
    obtain ⟨k, hk, rfl, hrow, hgr⟩ := hrel
    by_cases hlt : k < m
    · have hcell := hrow.cell (off + k)
      have hfree := hrow.free (off + k)
      have hlen : off + k < (Bm.fillB cs off k v).length := by rw [Bm.fillB_length _ _ _ _ (by omega)]; omega
      rw [u8s_get? _ _ hlen] at hcell
      generalize (Bm.fillB cs off k v)[off + k] = old at hcell
      have Hrow := Lib.hid hrow
      have Hgr := Lib.hid hgr
      clear hrow hgr hlen hr
      go_wp2
      rw [byte_val]
      go_roundw
      case rel => exact ⟨k + 1, by omega, by go_num, row_fill (by omega) Hrow.out, grown_set Hgr.out _ _⟩
      case measure => simp [intOf]; omega
    · obtain rfl : k = m := by omega
      go_wp2
      go_end0
      exact ⟨rfl, hrow, hgr⟩

set_option maxRecDepth 100000 in
theorem slice_at (g L q : Nat) (W : World) (h : q < L) (_hL : L ≤ 1000000000) : (Instr.slice 45 (.slice (some ⟨g, 0, none⟩) L L) (some (.int .i64 (q : Int))) none none).run Tryz.prog W = .ok (.slice (some ⟨g, q, none⟩) (L - q) (L - q)) W := by
  have h1 : ¬ L = q := by omega
  have h2 : q ≤ L := by omega
  go_simp
set_option maxRecDepth 100000 in
theorem slice_end (g L q : Nat) (W : World) (h : q = L) : (Instr.slice 45 (.slice (some ⟨g, 0, none⟩) L L) (some (.int .i64 (q : Int))) none none).run Tryz.prog W = .ok (.slice (some ⟨g, 0, none⟩) 0 0) W := by
  subst h
  go_simp
/-- fill of a new row's end. -/
theorem fill_end (g q c v : Nat) (w : World) (hr : Row w g 5 (u8s (List.replicate q 0))) :
    Calls Tryz.prog 59 #[.slice (some ⟨g, 0, none⟩) 0 c, .int .u64 (v : Int)] w fun e w' => e = .returned (.tuple #[]) ∧ Row w' g 5 (u8s (Bm.fillB (List.replicate q 0) q (min (q - q) 8) v)) ∧ w.grownBy w' (some g) :=
  (fill_none _ c v w).mono fun e w' ⟨he, hw⟩ => by
    subst hw
    refine ⟨he, ?_, grown_refl _ _⟩
    rw [Nat.sub_self, show min 0 8 = 0 from rfl, Bm.fillB_zero]
    exact hr
theorem bytes_start' {N n rest q L : Nat} {us : List Nat} (h : Bm.WOk N n rest us) (hq : q = 8 * (n / 64)) (hL : L = (n + 7) / 8) :
    Bm.fillB (List.replicate L 0) q (min (L - q) 8) rest = List.replicate q 0 ++ (Bm.bytesOf N L).drop q := by
  have h1 := Bm.bytes_start N n rest us h
  rw [h.1] at h1
  rw [hq, hL]
  exact h1

set_option maxHeartbeats 1000000 in
set_option maxRecDepth 100000 in
theorem bytes_any (b off N n : Nat) (w : World) (hn : n ≤ 1000000000) (h : WS w b off N n) :
    Calls Tryz.prog 39 #[.pointer (some ⟨b, off, none⟩)] w fun e w' => ∃ g, e = .returned (.slice (some ⟨g, 0, none⟩) ((n + 7) / 8) ((n + 7) / 8)) ∧ w.heap.size ≤ g ∧ Row w' g 5 (u8s (Bm.bytesOf N ((n + 7) / 8))) ∧ Below w.heap.size w w' := by
  obtain ⟨i0, hi, hz0, hz1, hz2⟩ := info_parts info_u8
  have HW := Lib.hid h
  obtain ⟨p, rest, us, h0, h1, h2, f0, f1, f2, hnt, hc, hw⟩ := h
  have Hc := Lib.hid hc
  have Hw := Lib.hid hw
  clear f0 f1 f2 hnt hc hw
  go_enter Tryz.func39, Tryz.ntmps39
  go_wp2_with (at_make; refine wpList_make_full _ rfl _ _ 45 rfl w.heap.size 5 i0 (.int .u8 0) 1 Tryz.underlying45 hi hz0 hz1 .i64 .i64 _ _ ((n + 7) / 8) rfl rfl ?c1 ?c1 ?c2 ?c3 ?c4 ?_)
  case c1 => omega
  case c2 => rw [hz2]; omega
  case c3 => unfold maxLen; omega
  case c4 => exact Nat.le_refl _
  intro w1 hown1 hg1
  have hb1 := below_of_grown hg1
  have HW1 := Lib.hid (HW.out.keep hg1 (by simp) (by simp))
  have hr1 : Row w1 w.heap.size 5 (u8s (List.replicate ((n + 7) / 8) 0)) := row_of_own hown1
  have d1 : w1.cell? ⟨b, off + 1, none⟩ = some (.int .u64 (rest : Int)) := (hb1.cell (p := ⟨b, off + 1, none⟩) (World.block_lt_of_cell? w _ h1)).trans h1
  have d2 : w1.cell? ⟨b, off + 2, none⟩ = some (.int .i64 (n : Int)) := (hb1.cell (p := ⟨b, off + 2, none⟩) (World.block_lt_of_cell? w _ h2)).trans h2
  have Hb1 := Lib.hid hb1
  have Hr1 := Lib.hid hr1
  have H0 := Lib.hid h0
  clear hown1 hg1 hb1 hr1 h0 h1 h2
  obtain ⟨q, hq⟩ : ∃ q, q = 8 * (n / 64) := ⟨_, rfl⟩
  obtain ⟨L, hL⟩ : ∃ L, L = (n + 7) / 8 := ⟨_, rfl⟩
  have hqL : q ≤ L := by omega
  have hqL2 : L ≤ q + 8 := by omega
  have hLs : L ≤ 1000000000 := by omega
  have hke : (n : Int) / 64 * 8 = (q : Int) := by omega
  have Hq := Lib.hid hq
  have Hke := Lib.hid hke
  have HL := Lib.hid hL
  clear hq hke hL
  go_wp2
  rw [Hke.out, ← HL.out]
  rw [← HL.out] at Hr1
  have hpost : ∀ w2, Row w2 w.heap.size 5 (u8s (Bm.fillB (List.replicate L 0) q (min (L - q) 8) rest)) → Row w2 w.heap.size 5 (u8s (List.replicate q 0 ++ (Bm.bytesOf N L).drop q)) :=
    fun w2 h => by rw [← bytes_start' Hw.out Hq.out HL.out]; exact h
  have Hpost := Lib.hid hpost
  clear hpost
  by_cases hlt : q = L
  all_goals first
    | (have hse := fun W => slice_end w.heap.size L q W hlt
       have Hlt := Lib.hid hlt
       clear hlt
       go_still_tail 7, (by kernel_rfl)
       change wpList _ _ _ _ _ w1.drew
       clear hse
       go_wp2_with fail
       refine (fill_end w.heap.size q _ rest w1.drew (by rw [Hlt.out]; exact Hr1.out)).mono ?_
       rintro e w2 ⟨rfl, hrow, hgr⟩
       rw [show Bm.fillB (List.replicate q 0) q (min (q - q) 8) rest = Bm.fillB (List.replicate L 0) q (min (L - q) 8) rest by rw [← Hlt.out]] at hrow
       clear Hlt)
    | (have hlt2 : q < L := by omega
       have hsa := fun W => slice_at w.heap.size L q W hlt2 hLs
       go_still_tail 7, (by kernel_rfl)
       change wpList _ _ _ _ _ w1.drew
       clear hsa
       go_wp2_with fail
       refine (fill_some w.heap.size q (L - q) _ rest (List.replicate L 0) w1.drew (by simp; omega) (by simpa using hLs) Hr1.out).mono ?_
       rintro e w2 ⟨rfl, hrow, hgr⟩
       clear hlt hlt2)
  all_goals
    have hrow2 := Hpost.out w2 hrow
    have hb2 : Below w.heap.size w w2 := Hb1.out.drew.grown hgr (by have := Hb1.out.size; simpa using this) (fun k e => by injection e with e; omega)
    have d0' : w2.cell? ⟨b, off, none⟩ = some (.pointer p) := (hb2.cell (p := ⟨b, off, none⟩) (World.block_lt_of_cell? w _ H0.out)).trans H0.out
    have hus : q = 8 * us.length := by rw [Hw.out.1]; exact Hq.out
    rw [show (q : Int) = ((8 * us.length : Nat) : Int) by rw [hus]]
    rw [hus] at hrow2
    have hus2 : 8 * us.length ≤ L := by omega
    have Hrow2 := Lib.hid hrow2
    have Hb2 := Lib.hid hb2
    clear hrow2 hb2 hgr hrow Hpost Hb1 d1 d2 H0 HW1 Hr1 Hke hqL hqL2 hus Hq HW
    go_wp2
    go_loopw [4, 5] (fun i p' wr => ∃ (rem : List Nat) (q' : Option Addr), i = .int .i64 ((8 * rem.length : Nat) : Int) ∧ p' = .pointer q' ∧ Hid (Chain w q' rem) ∧ Hid (Row wr w.heap.size 5 (u8s (List.replicate (8 * rem.length) 0 ++ (Bm.bytesOf N L).drop (8 * rem.length)))) ∧
      Hid (Below w.heap.size w wr) ∧ Hid (Bm.chainVal rem = N % 2 ^ (64 * rem.length)) ∧ Hid (∀ u ∈ rem, u < 2 ^ 64) ∧ 8 * rem.length ≤ L) (fun i _ _ => (intOf i).toNat)
    case atStart => exact ⟨us, p, rfl, rfl, Hc, Hrow2, Hb2, Hw.out.chain, Hw.out.2.2.1, hus2⟩
    case round =>
      obtain ⟨rem, q', rfl, rfl, hch, hrw, hbl, hcv, hlt64, hle⟩ := hrel
      clear hus2 Hb2 Hrow2 d0' Hc
      rcases rem with _ | ⟨u, us'⟩
      · obtain rfl : q' = none := hch.out
        have hfin : Row wr w.heap.size 5 (u8s (Bm.bytesOf N L)) := hrw.out
        rw [HL.out] at hfin
        have Hfin := Lib.hid hfin
        clear hfin hrw hle
        go_wp2
        go_ret
        rw [HL.out]
        exact ⟨_, rfl, Nat.le_refl _, Hfin.out, hbl.out⟩
      · obtain ⟨g1, q1, rfl, hr1, hch1⟩ := hch.out
        obtain ⟨r, hr⟩ : ∃ r, r = 8 * us'.length := ⟨_, rfl⟩
        have hg1 := hr1.lt
        have c0 := (hbl.out.cell (p := ⟨g1, 0, none⟩) hg1).trans (hr1.cell 0)
        have c1 := (hbl.out.cell (p := ⟨g1, 1, none⟩) hg1).trans (hr1.cell 1)
        simp only [List.getElem?_cons_zero, List.getElem?_cons_succ] at c0 c1
        have Hch1 := Lib.hid hch1
        rw [List.length_cons, show ((8 * (us'.length + 1) : Nat) : Int) = (r : Int) + 8 by omega]
        rw [List.length_cons] at hrw hcv hle
        have hrL : r < L := by omega
        have hr8 : r + 8 ≤ L := by omega
        have Hr := Lib.hid hr
        have hsa := fun W => slice_at w.heap.size L r W hrL hLs
        have hhead := Bm.chain_head N u us' (fun x hx => hlt64.out x (List.mem_cons_of_mem _ hx)) hcv.out
        have hcs : (List.replicate (8 * (us'.length + 1)) 0 ++ (Bm.bytesOf N L).drop (8 * (us'.length + 1))).length = L := by
          rw [List.length_append, List.length_replicate, List.length_drop, Bm.bytesOf_length]; omega
        have hfl : ∀ w3, Row w3 w.heap.size 5 (u8s (Bm.fillB (List.replicate (8 * (us'.length + 1)) 0 ++ (Bm.bytesOf N L).drop (8 * (us'.length + 1))) r (min (L - r) 8) u)) →
            Row w3 w.heap.size 5 (u8s (List.replicate (8 * us'.length) 0 ++ (Bm.bytesOf N L).drop (8 * us'.length))) := fun w3 h3 => by
          have e := Bm.bytes_step N L us'.length (by omega)
          rw [← hhead.1, ← hr, show 8 = min (L - r) 8 by omega] at e
          rw [show min (L - r) 8 = 8 by omega] at h3
          rw [show min (L - r) 8 = 8 by omega, hr] at e
          rw [← e, ← hr]
          exact h3
        have Hfl := Lib.hid hfl
        have Hcs := Lib.hid hcs
        have Hcv := Lib.hid hhead.2
        clear hr hch1 hr1 hch hle hfl hcs hhead hcv
        go_wp2
        go_still_tail 7, (by kernel_rfl)
        change wpList _ _ _ _ _ wr.drew
        clear hsa
        go_wp2_with fail
        refine (fill_some w.heap.size r (L - r) _ u _ wr.drew (by rw [Hcs.out]; omega) (by rw [Hcs.out]; exact hLs) hrw.out).mono ?_
        rintro e w3 ⟨rfl, hrow3, hgr3⟩
        have Hrow3 := Lib.hid (Hfl.out w3 hrow3)
        have hb3 : Below w.heap.size w w3 := hbl.out.drew.grown hgr3 (by have := hbl.out.size; simpa using this) (fun k e => by injection e with e; omega)
        have c0' : w3.cell? ⟨g1, 0, none⟩ = some (.pointer q1) := (hb3.cell (p := ⟨g1, 0, none⟩) hg1).trans ((hbl.out.cell (p := ⟨g1, 0, none⟩) hg1).symm.trans c0)
        have Hb3 := Lib.hid hb3
        clear hb3 hrow3 hgr3 c0 c1 hrw Hfl Hcs
        go_wp2
        go_roundw
        case rel => exact ⟨us', q1, by rw [Hr.out], rfl, Hch1, Hrow3, Hb3, Hcv, fun x hx => hlt64.out x (List.mem_cons_of_mem _ hx), by have := Hr.out; omega⟩
        case measure => simp [intOf]; omega
end Go.Proofs.YtbdciiiimdbmkaaGreat

namespace Go.Proofs.YtbdciiiimdbmkaaGreat
open Go.RowKit

set_option maxHeartbeats 400000 in
set_option maxRecDepth 100000 in
theorem newr_any (A : Option Addr) (c : Nat) (bs : List Nat) (w : World) (hbs : ∀ b ∈ bs, b < 256) (hr : Reads w A (u8s bs)) :
    Calls Tryz.prog 52 #[.slice A bs.length c] w fun e w' => e = .returned (.pointer (some ⟨w.heap.size, 0, none⟩)) ∧ RS w' w.heap.size 0 bs 0 ∧ Below w.heap.size w w' := by
  have hconv := conv_bytes w A c bs hbs hr
  clear hbs hr
  go_enter Tryz.func52, Tryz.ntmps52
  go_wp2
  go_ret
  have hrow := Row.new w 125 [.string (strOf bs), .int .i64 0]
  exact ⟨rfl, ⟨hrow.cell 0, hrow.cell 1, hrow.free 1, hrow.lt⟩, (Below.refl _ _).alloc (Nat.le_refl _) _⟩

set_option maxHeartbeats 400000 in
set_option maxRecDepth 100000 in
theorem take_bad (a : Addr) (m : Int) (w : World) (h : m < 0 ∨ 32 < m) :
    Calls Tryz.prog 76 #[.pointer (some a), .int .i64 m] w fun e w' => e = .returned (.tuple #[.int .u32 0, .bool false]) ∧ w = w' := by
  rcases h with h | h
  · go_enter Tryz.func76, Tryz.ntmps76
    go_wp2
    go_ret2
    exact ⟨rfl, rfl⟩
  · go_enter Tryz.func76, Tryz.ntmps76
    go_wp2
    go_ret2
    exact ⟨rfl, rfl⟩

set_option maxHeartbeats 400000 in
set_option maxRecDepth 100000 in
theorem take_few (b off : Nat) (bs : List Nat) (pos m : Nat) (w : World) (hs : bs.length ≤ 100000000) (hp : pos ≤ 8 * bs.length) (hm : m ≤ 32) (hfew : 8 * bs.length - pos < m) (h : RS w b off bs pos) :
    Calls Tryz.prog 76 #[.pointer (some ⟨b, off, none⟩), .int .i64 (m : Int)] w fun e w' => e = .returned (.tuple #[.int .u32 0, .bool false]) ∧ ∃ k, w' = w.drewN k := by
  have hl := left_any b off bs pos w (by omega) hp h
  have Hl := Lib.hid hl
  clear hl h
  generalize 8 * bs.length - pos = lft at Hl hfew
  have hlt : (lft : Int) < (m : Int) := by omega
  go_enter Tryz.func76, Tryz.ntmps76
  go_wp2_with fail
  refine Hl.out.mono ?_
  rintro e w' ⟨rfl, kk, rfl⟩
  go_wp2
  go_ret2
  exact ⟨rfl, _, rfl⟩

theorem or_take (x b k : Nat) (hx : x < 256 ^ k) (hb : b < 256) (hk : k < 5) : bits .or .u64 (x : Int) (IntKind.u64.wrap ((b : Int) * 2 ^ (8 * k))) = ((x + b * 256 ^ k : Nat) : Int) := by
  have hp : 256 ^ k ≤ 256 ^ 4 := Nat.pow_le_pow_right (by omega) (by omega)
  have h4 : (256 : Nat) ^ 4 = 4294967296 := by decide
  rw [or_val _ _ _ (by omega)]
  have h1 := Bm.or_sum (8 * k) x b (by rw [← Bm.p256]; exact hx)
  have h2 : b * 2 ^ (8 * k) < 2 ^ 64 := by
    rw [← Bm.p256]
    have := Nat.mul_le_mul (show b ≤ 255 by omega) hp
    omega
  rw [Nat.mod_eq_of_lt h2, h1, Bm.p256]

theorem take_step (bs : List Nat) (f k : Nat) (hfk : f ≤ k) (hk : k < bs.length) (h5 : k < f + 5) (h : ∀ x ∈ bs, x < 256) :
    bits .or .u64 ((Bm.valB ((bs.drop f).take (k - f)) : Nat) : Int) (IntKind.u64.wrap ((bs[k] : Int) * 2 ^ (8 * (k - f)))) = ((Bm.valB ((bs.drop f).take (k + 1 - f)) : Nat) : Int) := by
  have hl : ((bs.drop f).take (k - f)).length = k - f := by rw [List.length_take, List.length_drop]; omega
  have hlt := Bm.valB_lt ((bs.drop f).take (k - f)) (fun x hx => h x (List.mem_of_mem_drop (List.mem_of_mem_take hx)))
  rw [hl] at hlt
  rw [or_take _ _ _ hlt (h _ (List.getElem_mem hk)) (by omega)]
  have hg : k - f < (bs.drop f).length := by rw [List.length_drop]; omega
  have e : (bs.drop f)[k - f] = bs[k] := by rw [List.getElem_drop]; congr 1; omega
  rw [show k + 1 - f = (k - f) + 1 by omega, List.take_succ_eq_append_getElem hg, Bm.valB_snoc, hl, e]
theorem rs_step {w : World} {b off pos : Nat} {bs : List Nat} (h : RS w b off bs pos) (kk m : Nat) : RS ((w.setCell ⟨b, off + 1, none⟩ (.int .i64 ((pos + m : Nat) : Int))).drewN kk) b off bs (pos + m) := by
  have h1 : RS (w.setCell ⟨b, off + 1, none⟩ (.int .i64 ((pos + m : Nat) : Int))) b off bs (pos + m) := by
    obtain ⟨h0, h1, h2, h3⟩ := h
    refine ⟨?_, World.cell?_setCell_same _ _ _ h1, by simpa using h2, by simpa using h3⟩
    rw [World.cell?_setCell_other _ _ _ _ (by intro e; injection e with _ e _; omega)]
    exact h0
  exact h1.drewN kk

set_option maxHeartbeats 1000000 in
set_option maxRecDepth 100000 in
theorem take_ok (b off : Nat) (bs : List Nat) (pos m : Nat) (w : World) (hs : bs.length ≤ 100000000) (hbs : ∀ x ∈ bs, x < 256) (hm : m ≤ 32) (hle : pos + m ≤ 8 * bs.length) (h : RS w b off bs pos) :
    Calls Tryz.prog 76 #[.pointer (some ⟨b, off, none⟩), .int .i64 (m : Int)] w fun e w' =>
      e = .returned (.tuple #[.int .u32 ((Bm.valB bs / 2 ^ pos % 2 ^ m : Nat) : Int), .bool true]) ∧ RS w' b off bs (pos + m) ∧ w.grownBy w' (some b) := by
  have hl := left_any b off bs pos w (by omega) (by omega) h
  have Hl := Lib.hid hl
  have Hrs := Lib.hid h
  obtain ⟨h0, h1, h2, _⟩ := h
  have hlt : (m : Int) ≤ ((8 * bs.length - pos : Nat) : Int) := by omega
  have hsz := strOf_size bs
  have Hbs := Lib.hid hbs
  have hidx : ∀ (i : Nat) (W : World) (hi : i < bs.length), (Instr.index 9 (.string (strOf bs)) (.int .i64 (i : Int))).run Tryz.prog W = .ok (.int .u8 ((bs[i] : Nat) : Int)) W := fun i W hi => index_at bs i W hi (hbs _ (List.getElem_mem hi))
  have Hidx := Lib.hid hidx
  have Hsz := Lib.hid hsz
  clear hl hbs hidx hsz
  generalize strOf bs = sb at h0 Hidx Hsz
  have hsb : sb.size ≤ 100000000 := by rw [Hsz.out]; exact hs
  generalize hlf : 8 * bs.length - pos = lft at Hl hlt
  have Hlf := Lib.hid hlf
  clear hlf
  go_enter Tryz.func76, Tryz.ntmps76
  go_wp2_with fail
  refine Hl.out.mono ?_
  rintro e w' ⟨rfl, kk, rfl⟩
  have hlt2 : ¬ lft < m := by omega
  clear Hl
  obtain ⟨f, hf⟩ : ∃ f, f = pos / 8 := ⟨_, rfl⟩
  obtain ⟨t, ht⟩ : ∃ t, t = f + min 5 (bs.length - f) := ⟨_, rfl⟩
  have hfs : (pos : Int) / 8 = (f : Int) := by omega
  have hts : min ((f : Int) + 5) (sb.size : Int) = (t : Int) := by rw [Hsz.out]; omega
  have htl : t ≤ bs.length := by omega
  have htl2 : t ≤ f + 5 := by omega
  have hft : f ≤ t := by omega
  have Hf := Lib.hid hf
  have Ht := Lib.hid ht
  have Hfs := Lib.hid hfs
  have Hts := Lib.hid hts
  clear hf ht hfs hts
  go_wp2
  rw [Hfs.out, Hts.out]
  go_loop [8, 9] (fun v i => ∃ k : Nat, f ≤ k ∧ k ≤ t ∧ i = .int .i64 (k : Int) ∧ v = .int .u64 ((Bm.valB ((bs.drop f).take (k - f)) : Nat) : Int)) (fun _ i => t - (intOf i).toNat)
  case atStart => exact ⟨f, Nat.le_refl _, hft, rfl, by rw [Nat.sub_self]; rfl⟩
  case round =>
    obtain ⟨k, hfk, hkt, rfl, rfl⟩ := hrel
    by_cases hk : k < t
    · have hx := Hidx.out k
      have hx2 := fun W => hx W (by omega)
      have hb8 := Hbs.out bs[k] (List.getElem_mem (by omega))
      clear hx
      have hstep := take_step bs f k hfk (by omega) (by omega) Hbs.out
      have Hstep := Lib.hid hstep
      clear hstep
      generalize bs[k] = x at hx2 hb8 Hstep
      go_wp2
      rw [Hstep.out]
      go_round
      case rel => exact ⟨k + 1, by omega, by omega, by go_num, rfl⟩
      case measure => simp [intOf]; omega
    · obtain rfl : k = t := by omega
      have hv := Bm.take_eq bs Hbs.out pos m (k - f) hm hle (by have h3 := Ht.out; have h4 := Hf.out; omega)
      rw [← Hf.out] at hv
      have hy : Bm.valB ((bs.drop f).take (k - f)) < 2 ^ 40 := by
        have h5 := Bm.valB_lt ((bs.drop f).take (k - f)) (fun x hx => Hbs.out x (List.mem_of_mem_drop (List.mem_of_mem_take hx)))
        have h6 : 256 ^ ((bs.drop f).take (k - f)).length ≤ 256 ^ 5 := Nat.pow_le_pow_right (by omega) (by rw [List.length_take]; omega)
        have h7 : (256 : Nat) ^ 5 = 2 ^ 40 := by decide
        omega
      generalize Bm.valB ((bs.drop f).take (k - f)) = y at hv hy
      have hd : (y : Int) / 2 ^ (pos % 8) = ((y / 2 ^ (pos % 8) : Nat) : Int) := by simp
      have hdl := Nat.div_le_self y (2 ^ (pos % 8))
      have hz : ∀ z, z = y / 2 ^ (pos % 8) → z % 2 ^ m = Bm.valB bs / 2 ^ pos % 2 ^ m := fun z hz => by rw [hz]; exact hv
      have h40 : y / 2 ^ (pos % 8) < 2 ^ 64 := by
        have : (2 : Nat) ^ 40 ≤ 2 ^ 64 := Nat.pow_le_pow_right (by omega) (by omega)
        omega
      have hm32 : Bm.valB bs / 2 ^ pos % 2 ^ m < 4294967296 := Nat.lt_of_lt_of_le (Nat.mod_lt _ (Nat.two_pow_pos m)) (Nat.pow_le_pow_right (n := 2) (j := 32) (by omega) hm)
      have Hd := Lib.hid hd
      have Hv := Lib.hid hv
      clear hv hd hz hdl hy
      go_wp2_with fail
      rw [Hd.out]
      refine (lowest_any (y / 2 ^ (pos % 8)) m _ h40 (by omega)).mono ?_
      rintro e w' ⟨rfl, rfl⟩
      rw [Hv.out]
      have hposm : (pos : Int) + (m : Int) = ((pos + m : Nat) : Int) := by omega
      have Hpm := Lib.hid hposm
      clear hposm h40
      generalize hzz : Bm.valB bs / 2 ^ pos % 2 ^ m = z at hm32
      have Hzz := Lib.hid hzz
      clear hzz
      go_wp2
      go_ret2
      rw [Hpm.out, Hzz.out]
      exact ⟨rfl, rs_step Hrs.out kk m, grown_set (grown_drewN (grown_refl _ _) _) _ _⟩
end Go.Proofs.YtbdciiiimdbmkaaGreat

namespace Go.Proofs.YtbdciiiimdbmkaaGreat
open Go.RowKit

theorem put_int (b off N n : Nat) (v m : Int) (w : World) (hn : n ≤ 1000000000) (hv0 : 0 ≤ v) (hv : v < 4294967296) (hm0 : 0 ≤ m) (hm : m ≤ 32) (h : WS w b off N n) :
    Calls Tryz.prog 38 #[.pointer (some ⟨b, off, none⟩), .int .u32 v, .int .i64 m] w fun e w' => e = .returned (.bool true) ∧ WS w' b off (N + v.toNat % 2 ^ m.toNat * 2 ^ n) (n + m.toNat) ∧ w.grownBy w' (some b) := by
  obtain ⟨v', rfl⟩ := Int.eq_ofNat_of_zero_le hv0
  obtain ⟨m', rfl⟩ := Int.eq_ofNat_of_zero_le hm0
  rw [Int.toNat_natCast, Int.toNat_natCast]
  exact put_true b off N n v' m' w hn (by omega) (by omega) h
theorem take_int (b off : Nat) (bs : List Nat) (pos : Nat) (m : Int) (w : World) (hs : bs.length ≤ 100000000) (hbs : ∀ x ∈ bs, x < 256) (hm0 : 0 ≤ m) (hm : m ≤ 32) (hle : pos + m.toNat ≤ 8 * bs.length) (h : RS w b off bs pos) :
    Calls Tryz.prog 76 #[.pointer (some ⟨b, off, none⟩), .int .i64 m] w fun e w' =>
      e = .returned (.tuple #[.int .u32 ((Bm.valB bs / 2 ^ pos % 2 ^ m.toNat : Nat) : Int), .bool true]) ∧ RS w' b off bs (pos + m.toNat) ∧ w.grownBy w' (some b) := by
  obtain ⟨m', rfl⟩ := Int.eq_ofNat_of_zero_le hm0
  rw [Int.toNat_natCast] at hle ⊢
  exact take_ok b off bs pos m' w hs hbs (by omega) hle h
theorem newr_n (A : Option Addr) (n c : Nat) (bs : List Nat) (w : World) (hn : bs.length = n) (hbs : ∀ b ∈ bs, b < 256) (hr : Reads w A (u8s bs)) :
    Calls Tryz.prog 52 #[.slice A n c] w fun e w' => e = .returned (.pointer (some ⟨w.heap.size, 0, none⟩)) ∧ RS w' w.heap.size 0 bs 0 ∧ Below w.heap.size w w' := by
  subst hn
  exact newr_any A c bs w hbs hr
theorem notW : (77 : TypeId) ≠ 108 := by decide
theorem own_notT {w : World} {base : Nat} {v : Value} {n : Nat} {xs : List Value} (h : w.ownsRow base 3 1 v n xs) : ∀ g, v.ownBlock = some g → NotT w g 108 := by
  intro g hg
  rcases h.2 with ⟨rfl, _⟩ | ⟨g', cap, cur, rfl, _, hh, _⟩
  · simp [Value.ownBlock] at hg
  · have e : g' = g := by simpa [Value.ownBlock] using hg
    subst e
    exact ⟨_, _, _, hh, by decide⟩

theorem WS.len_cell {w : World} {b off N n : Nat} (h : WS w b off N n) : w.cell? ⟨b, off + 2, none⟩ = some (.int .i64 (n : Int)) := by
  obtain ⟨p, rest, us, h0, h1, h2, _⟩ := h
  exact h2
end Go.Proofs.YtbdciiiimdbmkaaGreat

namespace Go.Proofs.YtbdciiiimdbmkaaGreat
open Go.RowKit

/-- A Reader from the end at block b reads these bytes, of whose bits so many are left; it, and its bytes, lie from block B on. -/
def TS (w : World) (B b : Nat) (bs : List Nat) (left : Nat) : Prop := ∃ g cap,
  w.cell? ⟨b, 0, none⟩ = some (.slice (some ⟨g, 0, none⟩) bs.length cap) ∧ w.cell? ⟨b, 1, none⟩ = some (.int .i64 (left : Int)) ∧ w.frozen? ⟨b, 1, none⟩ = false ∧
  B ≤ b ∧ b < w.heap.size ∧ B ≤ g ∧ g < w.heap.size ∧ g ≠ b ∧ bs.length ≤ cap ∧ cap ≤ maxLen ∧ Reads w (some ⟨g, 0, none⟩) (u8s bs)
theorem TS.keep {w w' : World} {B b left : Nat} {bs : List Nat} {row : Option Nat} (h : TS w B b bs left) (hg : w.grownBy w' row) (hr : ∀ r, row = some r → r < B) : TS w' B b bs left := by
  obtain ⟨g, cap, h0, h1, h2, h3, h4, h5, h6, h7, h8, h9, h10⟩ := h
  have hl := hg.block b h4 (fun e => by have := hr b e.symm; omega)
  have hl2 := hg.block g h6 (fun e => by have := hr g e.symm; omega)
  refine ⟨g, cap, (World.cell?_of_block hl).trans h0, (World.cell?_of_block hl).trans h1, (World.frozen?_of_block hl).trans h2, h3, Nat.lt_of_lt_of_le h4 hg.size, h5, Nat.lt_of_lt_of_le h6 hg.size, h7, h8, h9, fun hne => ?_⟩
  obtain ⟨g', off, e, hc⟩ := h10 hne
  injection e with e
  injection e with e1 e2
  subst e1 e2
  exact ⟨_, _, rfl, fun j hj => (World.cell?_of_block (a := ⟨g, 0 + j, none⟩) hl2).trans (hc j hj)⟩
theorem TS.drewN {w : World} {B b left : Nat} {bs : List Nat} (h : TS w B b bs left) (k : Nat) : TS (w.drewN k) B b bs left := h.keep (row := none) (grown_drewN (grown_refl _ _) k) (by simp)
theorem TS.drew {w : World} {B b left : Nat} {bs : List Nat} (h : TS w B b bs left) : TS w.drew B b bs left := h.keep (row := none) (grown_drew (grown_refl _ _)) (by simp)
theorem TS.low {w : World} {B B' b left : Nat} {bs : List Nat} (h : TS w B b bs left) (hB : B' ≤ B) : TS w B' b bs left := by
  obtain ⟨g, cap, h0, h1, h2, h3, h4, h5, h6, h7, h8, h9, h10⟩ := h
  exact ⟨g, cap, h0, h1, h2, by omega, h4, by omega, h6, h7, h8, h9, h10⟩
theorem reads_set {w : World} {g b i : Nat} {xs : List Value} {u : Value} (h : Reads w (some ⟨g, 0, none⟩) xs) (hne : g ≠ b) : Reads (w.setCell ⟨b, i, none⟩ u) (some ⟨g, 0, none⟩) xs := fun hx => by
  obtain ⟨g', off, e, hc⟩ := h hx
  injection e with e
  injection e with e1 e2
  subst e1 e2
  exact ⟨_, _, rfl, fun j hj => by rw [World.cell?_setCell_other _ _ _ _ (by intro e; injection e with e _ _; exact hne e.symm)]; exact hc j hj⟩
/-- Fewer are left. -/
theorem TS.step {w : World} {B b left : Nat} {bs : List Nat} (h : TS w B b bs left) (left' : Nat) : TS (w.setCell ⟨b, 1, none⟩ (.int .i64 (left' : Int))) B b bs left' := by
  obtain ⟨g, cap, h0, h1, h2, h3, h4, h5, h6, h7, h8, h9, h10⟩ := h
  refine ⟨g, cap, ?_, World.cell?_setCell_same _ _ _ h1, by simpa using h2, h3, by simpa using h4, h5, by simpa using h6, h7, h8, h9, reads_set h10 h7⟩
  rw [World.cell?_setCell_other _ _ _ _ (by intro e; injection e with _ e _; omega)]; exact h0

set_option maxHeartbeats 400000 in
set_option maxRecDepth 100000 in
theorem bleft_nil (w : World) : Calls Tryz.prog 118 #[.pointer none] w fun e w' => e = .returned (.int .i64 0) ∧ w = w' := by
  go_enter Tryz.func118, Tryz.ntmps118
  go_wp2
  go_ret
  exact ⟨rfl, rfl⟩
set_option maxHeartbeats 400000 in
set_option maxRecDepth 100000 in
theorem bleft_core (b : Nat) (n : Int) (w : World) (h : w.cell? ⟨b, 1, none⟩ = some (.int .i64 n)) :
    Calls Tryz.prog 118 #[.pointer (some ⟨b, 0, none⟩)] w fun e w' => e = .returned (.int .i64 n) ∧ w = w' := by
  go_enter Tryz.func118, Tryz.ntmps118
  go_wp2
  go_ret
  exact ⟨rfl, rfl⟩
theorem bleft_any (B b left : Nat) (bs : List Nat) (w : World) (h : TS w B b bs left) :
    Calls Tryz.prog 118 #[.pointer (some ⟨b, 0, none⟩)] w fun e w' => e = .returned (.int .i64 (left : Int)) ∧ w = w' := by
  obtain ⟨g, cap, _, h1, _⟩ := h
  exact bleft_core b _ w h1

set_option maxHeartbeats 400000 in
set_option maxRecDepth 100000 in
theorem btk_nil (w : World) (n : Int) : Calls Tryz.prog 115 #[.pointer none, .int .i64 n] w fun e w' => e = .returned (.tuple #[.int .u32 0, .bool false]) ∧ w = w' := by
  go_enter Tryz.func115, Tryz.ntmps115
  go_wp2
  go_ret2
  exact ⟨rfl, rfl⟩
set_option maxHeartbeats 400000 in
set_option maxRecDepth 100000 in
theorem btk_bad (a : Addr) (m : Int) (w : World) (h : m < 0 ∨ 32 < m) :
    Calls Tryz.prog 115 #[.pointer (some a), .int .i64 m] w fun e w' => e = .returned (.tuple #[.int .u32 0, .bool false]) ∧ w = w' := by
  rcases h with h | h
  · go_enter Tryz.func115, Tryz.ntmps115
    go_wp2
    go_ret2
    exact ⟨rfl, rfl⟩
  · go_enter Tryz.func115, Tryz.ntmps115
    go_wp2
    go_ret2
    exact ⟨rfl, rfl⟩
set_option maxHeartbeats 400000 in
set_option maxRecDepth 100000 in
theorem btk_few (B b left : Nat) (bs : List Nat) (m : Nat) (w : World) (hm : m ≤ 32) (hfew : left < m) (h : TS w B b bs left) :
    Calls Tryz.prog 115 #[.pointer (some ⟨b, 0, none⟩), .int .i64 (m : Int)] w fun e w' => e = .returned (.tuple #[.int .u32 0, .bool false]) ∧ w = w' := by
  obtain ⟨g, cap, _, h1, _⟩ := h
  have hlt : (left : Int) < (m : Int) := by omega
  go_enter Tryz.func115, Tryz.ntmps115
  go_wp2
  go_ret2
  exact ⟨rfl, rfl⟩

set_option maxRecDepth 100000 in
theorem slice_mid (g L c f t : Nat) (W : World) (hf : f < t) (ht : t ≤ L) (hc : L ≤ c) :
    (Instr.slice 45 (.slice (some ⟨g, 0, none⟩) L c) (some (.int .i64 (f : Int))) (some (.int .i64 (t : Int))) none).run Tryz.prog W = .ok (.slice (some ⟨g, f, none⟩) (t - f) (c - f)) W := by
  have h1 : ¬ c = f := by omega
  have h2 : f ≤ t := by omega
  have h3 : t ≤ c := by omega
  have h4 : f ≤ c := by omega
  go_simp
theorem reads_mid {w : World} {g f t : Nat} {bs : List Nat} (h : Reads w (some ⟨g, 0, none⟩) (u8s bs)) (hf : f < t) (ht : t ≤ bs.length) : Reads w (some ⟨g, f, none⟩) (u8s ((bs.drop f).take (t - f))) := fun _ => by
  obtain ⟨g', off, e, hc⟩ := h (by intro e; have := u8s_length bs; rw [e] at this; simp at this; omega)
  injection e with e
  injection e with e1 e2
  subst e1 e2
  refine ⟨g, f, rfl, fun j hj => ?_⟩
  have hj' : j < t - f := by simp [u8s] at hj; omega
  have hc2 := hc (f + j) (by rw [u8s_length]; omega)
  rw [Nat.zero_add] at hc2
  have hl : j < ((bs.drop f).take (t - f)).length := by simp; omega
  rw [hc2, u8s_get? bs (f + j) (by omega), u8s_get? _ j hl]
  simp
end Go.Proofs.YtbdciiiimdbmkaaGreat

namespace Go.Proofs.YtbdciiiimdbmkaaGreat
open Go.RowKit

/-- What is left behind the first pos bits, as the statement keeps it: a slice of L ints, the bits of X. -/
def Rest (w : World) (B : Nat) (A : Option Addr) (X L : Nat) : Prop :=
  L = 0 ∨ ∃ g off, A = some ⟨g, off, none⟩ ∧ B ≤ g ∧ g < w.heap.size ∧ ∀ j, j < L → w.cell? ⟨g, off + j, none⟩ = some (.int .i64 ((X / 2 ^ j % 2 : Nat) : Int))
theorem Rest.keep {w w' : World} {B : Nat} {A : Option Addr} {X L : Nat} {row : Option Nat} (h : Rest w B A X L) (hg : w.grownBy w' row) (hr : ∀ g, row = some g → g < B) : Rest w' B A X L := by
  rcases h with h | ⟨g, off, e, hB, hl, hc⟩
  · exact .inl h
  · refine .inr ⟨g, off, e, hB, Nat.lt_of_lt_of_le hl hg.size, fun j hj => ?_⟩
    have hne : some g ≠ row := fun e => by
      have := hr g e.symm
      omega
    exact (World.cell?_of_block (a := ⟨g, off + j, none⟩) (hg.block g hl hne)).trans (hc j hj)
set_option maxRecDepth 100000 in
theorem slice_to (A : Option Addr) (L c q : Nat) (W : World) (h : q ≤ L) (hc : L ≤ c) : (Instr.slice 57 (.slice A L c) none (some (.int .i64 (q : Int))) none).run Tryz.prog W = .ok (.slice A q c) W := by
  have h1 : q ≤ c := by omega
  rcases A with _ | a
  · go_simp
  · go_simp
/-- Where a slice goes on behind q of its elements. -/
def onA (A : Option Addr) (c q : Nat) : Option Addr := if c = q then A else A.map (·.add q)
set_option maxRecDepth 100000 in
theorem slice_on (A : Option Addr) (L c q : Nat) (W : World) (h : q ≤ L) (hc : L ≤ c) : (Instr.slice 57 (.slice A L c) (some (.int .i64 (q : Int))) none none).run Tryz.prog W = .ok (.slice (onA A c q) (L - q) (c - q)) W := by
  have h1 : q ≤ c := by omega
  unfold onA
  by_cases hcq : c = q
  · subst hcq
    rcases A with _ | a
    · go_simp
    · go_simp
  · rcases A with _ | a
    · go_simp
    · go_simp
theorem Rest.on {w : World} {B : Nat} {A : Option Addr} {X L c q : Nat} (h : Rest w B A X L) (hq : q ≤ L) (hc : L ≤ c) : Rest w B (onA A c q) (X / 2 ^ q) (L - q) := by
  rcases h with h | ⟨g, off, e, hB, hl, hcell⟩
  · exact .inl (by omega)
  · by_cases hz : L - q = 0
    · exact .inl hz
    · refine .inr ⟨g, off + q, ?_, hB, hl, fun j hj => ?_⟩
      · unfold onA
        rw [if_neg (by omega), e]
        show some _ = _
        congr 1
        unfold Addr.add
        split <;> simp_all
      · rw [Nat.add_assoc, hcell (q + j) (by omega), Nat.div_div_eq_div_mul, ← Nat.pow_add]
theorem own_rest {w : World} {B : Nat} {v : Value} {X L : Nat} (h : w.ownsRow B 3 1 v L (i64s (Bm.bitsOf X L))) : ∃ A c, v = .slice A L c ∧ L ≤ c ∧ c ≤ maxLen ∧ Rest w B A X L := by
  rcases h.2 with ⟨hv, h0⟩ | ⟨g, cap, cur, hv, hb, hh, h1, h2, _⟩
  · exact ⟨none, 0, by rw [hv, h0], by omega, by unfold maxLen; omega, .inl h0⟩
  · refine ⟨some ⟨g, 0, none⟩, cap, hv, h1, h2, .inr ⟨g, 0, rfl, hb, ?_, fun j hj => ?_⟩⟩
    · rcases Nat.lt_or_ge g w.heap.size with h3 | h3
      · exact h3
      · rw [Array.getElem?_eq_none h3] at hh; cases hh
    · have hc := h.cells (g := g) (by rw [hv]; rfl) j _ (i64s_get? _ j (by rw [Bm.bitsOf_length]; exact hj))
      rw [add_zero_off, Bm.bitsOf_get] at hc
      rw [Nat.zero_add]
      exact hc
/-- Number of the first q of them. -/
theorem rnum_rest {w : World} {B : Nat} {A : Option Addr} {X L q c : Nat} (h : Rest w B A X L) (hq : q ≤ L) (h32 : q ≤ 32) :
    Calls Tryz.prog 25 #[.slice A q c] w fun e w' => e = .returned (.int .u32 ((X % 2 ^ q : Nat) : Int)) ∧ w = w' := by
  rcases Nat.eq_zero_or_pos q with h0 | h0
  · subst h0
    have h1 := rnum_nil A c w
    rw [Nat.pow_zero, Nat.mod_one]
    exact h1
  · rcases h with h | ⟨g, off, e, _, _, hcell⟩
    · omega
    · subst e
      exact rnum_some g off q c X w h32 h0 (fun j hj => hcell j (by omega))

end Go.Proofs.YtbdciiiimdbmkaaGreat
