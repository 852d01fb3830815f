/-
  Bytes of a Writer, NewReader, and fill (layer 1), by their walks: a Writer's bits as bytes in a new block. Conditions: as each theorem's premises say (up to a thousand million bits).
-/
import Derived.Test.YtefcahmhfjblpaaWr
import Derived.StillTailTactics
namespace Go.Proofs.Ytefcahmhfjblpaa
open Go.RowKit

set_option maxHeartbeats 400000 in
set_option maxRecDepth 100000 in
theorem fill_none (A : Option Addr) (c : Nat) (v : Int) (w : World) :
    Calls Try.prog 29 #[.slice A 0 c, .int .u64 v] w fun e w' => e = .returned (.tuple #[]) ∧ w = w' := by
  go_enter Try.func29, Try.ntmps29
  go_wp2
  go_loop [8] (fun i => i = .int .i64 0) (fun _ => 0)
  case atStart => rfl
  case round =>
    obtain rfl := hrel
    go_wp2
    go_end0
    exact ⟨rfl, rfl⟩

theorem row_fill {w : World} {g off k v : Nat} {cs : List Nat} (hl : off + k < cs.length) (h : Row w g 5 (u8s (Bm.fillB cs off k v))) :
    Row (w.setCell ⟨g, off + k, none⟩ (.int .u8 ((v / 256 ^ k % 256 : Nat) : Int))) g 5 (u8s (Bm.fillB cs off (k + 1) v)) := by
  have h1 := h.set_ (off + k) (.int .u8 ((v / 256 ^ k % 256 : Nat) : Int))
  rw [u8s_set, Bm.fillB_step _ _ _ _ hl] at h1
  exact h1

set_option maxHeartbeats 400000 in
set_option maxRecDepth 100000 in
theorem fill_some (g off len c v : Nat) (cs : List Nat) (w : World) (hl : off + len ≤ cs.length) (hcl : cs.length ≤ 1000000000) (hr : Row w g 5 (u8s cs)) :
    Calls Try.prog 29 #[.slice (some ⟨g, off, none⟩) len c, .int .u64 (v : Int)] w fun e w' => e = .returned (.tuple #[]) ∧ Row w' g 5 (u8s (Bm.fillB cs off (min len 8) v)) ∧ w.grownBy w' (some g) := by
  obtain ⟨m, hm⟩ : ∃ m, m = min len 8 := ⟨_, rfl⟩
  have hm8 : m ≤ 8 := by omega
  have hml : m ≤ len := by omega
  have hmin : Hid ((min (len : Int) 8) = (m : Int)) := by unfold Hid; omega
  rw [← hm]
  clear hm
  go_enter Try.func29, Try.ntmps29
  go_wp2
  rw [hmin.out]
  go_loopw [8] (fun i wr => ∃ k : Nat, k ≤ m ∧ i = .int .i64 (k : Int) ∧ Row wr g 5 (u8s (Bm.fillB cs off k v)) ∧ w.grownBy wr (some g)) (fun i _ => m - (intOf i).toNat)
  case atStart => exact ⟨0, Nat.zero_le _, rfl, by rw [Bm.fillB_zero]; exact hr, grown_refl _ _⟩
  case round =>
    obtain ⟨k, hk, rfl, hrow, hgr⟩ := hrel
    by_cases hlt : k < m
    · have hcell := hrow.cell (off + k)
      have hfree := hrow.free (off + k)
      have hlen : off + k < (Bm.fillB cs off k v).length := by rw [Bm.fillB_length _ _ _ _ (by omega)]; omega
      rw [u8s_get? _ _ hlen] at hcell
      generalize (Bm.fillB cs off k v)[off + k] = old at hcell
      have Hrow := Lib.hid hrow
      have Hgr := Lib.hid hgr
      clear hrow hgr hlen hr
      go_wp2
      rw [byte_val]
      go_roundw
      case rel => exact ⟨k + 1, by omega, by go_num, row_fill (by omega) Hrow.out, grown_set Hgr.out _ _⟩
      case measure => simp [intOf]; omega
    · obtain rfl : k = m := by omega
      go_wp2
      go_end0
      exact ⟨rfl, hrow, hgr⟩

set_option maxRecDepth 100000 in
theorem slice_at (g L q : Nat) (W : World) (h : q < L) (_hL : L ≤ 1000000000) : (Instr.slice 36 (.slice (some ⟨g, 0, none⟩) L L) (some (.int .i64 (q : Int))) none none).run Try.prog W = .ok (.slice (some ⟨g, q, none⟩) (L - q) (L - q)) W := by
  have h1 : ¬ L = q := by omega
  have h2 : q ≤ L := by omega
  go_simp
set_option maxRecDepth 100000 in
theorem slice_end (g L q : Nat) (W : World) (h : q = L) : (Instr.slice 36 (.slice (some ⟨g, 0, none⟩) L L) (some (.int .i64 (q : Int))) none none).run Try.prog W = .ok (.slice (some ⟨g, 0, none⟩) 0 0) W := by
  subst h
  go_simp
/-- fill of a new row's end. -/
theorem fill_end (g q c v : Nat) (w : World) (hr : Row w g 5 (u8s (List.replicate q 0))) :
    Calls Try.prog 29 #[.slice (some ⟨g, 0, none⟩) 0 c, .int .u64 (v : Int)] w fun e w' => e = .returned (.tuple #[]) ∧ Row w' g 5 (u8s (Bm.fillB (List.replicate q 0) q (min (q - q) 8) v)) ∧ w.grownBy w' (some g) :=
  (fill_none _ c v w).mono fun e w' ⟨he, hw⟩ => by
    subst hw
    refine ⟨he, ?_, grown_refl _ _⟩
    rw [Nat.sub_self, show min 0 8 = 0 from rfl, Bm.fillB_zero]
    exact hr
theorem bytes_start' {N n rest q L : Nat} {us : List Nat} (h : Bm.WOk N n rest us) (hq : q = 8 * (n / 64)) (hL : L = (n + 7) / 8) :
    Bm.fillB (List.replicate L 0) q (min (L - q) 8) rest = List.replicate q 0 ++ (Bm.bytesOf N L).drop q := by
  have h1 := Bm.bytes_start N n rest us h
  rw [h.1] at h1
  rw [hq, hL]
  exact h1

set_option maxHeartbeats 1000000 in
set_option maxRecDepth 100000 in
theorem bytes_any (b off N n : Nat) (w : World) (hn : n ≤ 1000000000) (h : WS w b off N n) :
    Calls Try.prog 13 #[.pointer (some ⟨b, off, none⟩)] w fun e w' => ∃ g, e = .returned (.slice (some ⟨g, 0, none⟩) ((n + 7) / 8) ((n + 7) / 8)) ∧ w.heap.size ≤ g ∧ Row w' g 5 (u8s (Bm.bytesOf N ((n + 7) / 8))) ∧ Below w.heap.size w w' := by
  obtain ⟨i0, hi, hz0, hz1, hz2⟩ := info_parts info_u8
  have HW := Lib.hid h
  obtain ⟨p, rest, us, h0, h1, h2, f0, f1, f2, hnt, hc, hw⟩ := h
  have Hc := Lib.hid hc
  have Hw := Lib.hid hw
  clear f0 f1 f2 hnt hc hw
  go_enter Try.func13, Try.ntmps13
  go_wp2_with (at_make; refine wpList_make_full _ rfl _ _ 36 rfl w.heap.size 5 i0 (.int .u8 0) 1 Try.underlying36 hi hz0 hz1 .i64 .i64 _ _ ((n + 7) / 8) rfl rfl ?c1 ?c1 ?c2 ?c3 ?c4 ?_)
  case c1 => omega
  case c2 => rw [hz2]; omega
  case c3 => unfold maxLen; omega
  case c4 => exact Nat.le_refl _
  intro w1 hown1 hg1
  have hb1 := below_of_grown hg1
  have HW1 := Lib.hid (HW.out.keep hg1 (by simp) (by simp))
  have hr1 : Row w1 w.heap.size 5 (u8s (List.replicate ((n + 7) / 8) 0)) := row_of_own hown1
  have d1 : w1.cell? ⟨b, off + 1, none⟩ = some (.int .u64 (rest : Int)) := (hb1.cell (p := ⟨b, off + 1, none⟩) (World.block_lt_of_cell? w _ h1)).trans h1
  have d2 : w1.cell? ⟨b, off + 2, none⟩ = some (.int .i64 (n : Int)) := (hb1.cell (p := ⟨b, off + 2, none⟩) (World.block_lt_of_cell? w _ h2)).trans h2
  have Hb1 := Lib.hid hb1
  have Hr1 := Lib.hid hr1
  have H0 := Lib.hid h0
  clear hown1 hg1 hb1 hr1 h0 h1 h2
  obtain ⟨q, hq⟩ : ∃ q, q = 8 * (n / 64) := ⟨_, rfl⟩
  obtain ⟨L, hL⟩ : ∃ L, L = (n + 7) / 8 := ⟨_, rfl⟩
  have hqL : q ≤ L := by omega
  have hqL2 : L ≤ q + 8 := by omega
  have hLs : L ≤ 1000000000 := by omega
  have hke : (n : Int) / 64 * 8 = (q : Int) := by omega
  have Hq := Lib.hid hq
  have Hke := Lib.hid hke
  have HL := Lib.hid hL
  clear hq hke hL
  go_wp2
  rw [Hke.out, ← HL.out]
  rw [← HL.out] at Hr1
  have hpost : ∀ w2, Row w2 w.heap.size 5 (u8s (Bm.fillB (List.replicate L 0) q (min (L - q) 8) rest)) → Row w2 w.heap.size 5 (u8s (List.replicate q 0 ++ (Bm.bytesOf N L).drop q)) :=
    fun w2 h => by rw [← bytes_start' Hw.out Hq.out HL.out]; exact h
  have Hpost := Lib.hid hpost
  clear hpost
  by_cases hlt : q = L
  all_goals first
    | (have hse := fun W => slice_end w.heap.size L q W hlt
       have Hlt := Lib.hid hlt
       clear hlt
       go_still_tail 7, (by kernel_rfl)
       change wpList _ _ _ _ _ w1.drew
       clear hse
       go_wp2_with fail
       refine (fill_end w.heap.size q _ rest w1.drew (by rw [Hlt.out]; exact Hr1.out)).mono ?_
       rintro e w2 ⟨rfl, hrow, hgr⟩
       rw [show Bm.fillB (List.replicate q 0) q (min (q - q) 8) rest = Bm.fillB (List.replicate L 0) q (min (L - q) 8) rest by rw [← Hlt.out]] at hrow
       clear Hlt)
    | (have hlt2 : q < L := by omega
       have hsa := fun W => slice_at w.heap.size L q W hlt2 hLs
       go_still_tail 7, (by kernel_rfl)
       change wpList _ _ _ _ _ w1.drew
       clear hsa
       go_wp2_with fail
       refine (fill_some w.heap.size q (L - q) _ rest (List.replicate L 0) w1.drew (by simp; omega) (by simpa using hLs) Hr1.out).mono ?_
       rintro e w2 ⟨rfl, hrow, hgr⟩
       clear hlt hlt2)
  all_goals
    have hrow2 := Hpost.out w2 hrow
    have hb2 : Below w.heap.size w w2 := Hb1.out.drew.grown hgr (by have := Hb1.out.size; simpa using this) (fun k e => by injection e with e; omega)
    have d0' : w2.cell? ⟨b, off, none⟩ = some (.pointer p) := (hb2.cell (p := ⟨b, off, none⟩) (World.block_lt_of_cell? w _ H0.out)).trans H0.out
    have hus : q = 8 * us.length := by rw [Hw.out.1]; exact Hq.out
    rw [show (q : Int) = ((8 * us.length : Nat) : Int) by rw [hus]]
    rw [hus] at hrow2
    have hus2 : 8 * us.length ≤ L := by omega
    have Hrow2 := Lib.hid hrow2
    have Hb2 := Lib.hid hb2
    clear hrow2 hb2 hgr hrow Hpost Hb1 d1 d2 H0 HW1 Hr1 Hke hqL hqL2 hus Hq HW
    go_wp2
    go_loopw [4, 5] (fun i p' wr => ∃ (rem : List Nat) (q' : Option Addr), i = .int .i64 ((8 * rem.length : Nat) : Int) ∧ p' = .pointer q' ∧ Hid (Chain w q' rem) ∧ Hid (Row wr w.heap.size 5 (u8s (List.replicate (8 * rem.length) 0 ++ (Bm.bytesOf N L).drop (8 * rem.length)))) ∧
      Hid (Below w.heap.size w wr) ∧ Hid (Bm.chainVal rem = N % 2 ^ (64 * rem.length)) ∧ Hid (∀ u ∈ rem, u < 2 ^ 64) ∧ 8 * rem.length ≤ L) (fun i _ _ => (intOf i).toNat)
    case atStart => exact ⟨us, p, rfl, rfl, Hc, Hrow2, Hb2, Hw.out.chain, Hw.out.2.2.1, hus2⟩
    case round =>
      obtain ⟨rem, q', rfl, rfl, hch, hrw, hbl, hcv, hlt64, hle⟩ := hrel
      clear hus2 Hb2 Hrow2 d0' Hc
      rcases rem with _ | ⟨u, us'⟩
      · obtain rfl : q' = none := hch.out
        have hfin : Row wr w.heap.size 5 (u8s (Bm.bytesOf N L)) := hrw.out
        rw [HL.out] at hfin
        have Hfin := Lib.hid hfin
        clear hfin hrw hle
        go_wp2
        go_ret
        rw [HL.out]
        exact ⟨_, rfl, Nat.le_refl _, Hfin.out, hbl.out⟩
      · obtain ⟨g1, q1, rfl, hr1, hch1⟩ := hch.out
        obtain ⟨r, hr⟩ : ∃ r, r = 8 * us'.length := ⟨_, rfl⟩
        have hg1 := hr1.lt
        have c0 := (hbl.out.cell (p := ⟨g1, 0, none⟩) hg1).trans (hr1.cell 0)
        have c1 := (hbl.out.cell (p := ⟨g1, 1, none⟩) hg1).trans (hr1.cell 1)
        simp only [List.getElem?_cons_zero, List.getElem?_cons_succ] at c0 c1
        have Hch1 := Lib.hid hch1
        rw [List.length_cons, show ((8 * (us'.length + 1) : Nat) : Int) = (r : Int) + 8 by omega]
        rw [List.length_cons] at hrw hcv hle
        have hrL : r < L := by omega
        have hr8 : r + 8 ≤ L := by omega
        have Hr := Lib.hid hr
        have hsa := fun W => slice_at w.heap.size L r W hrL hLs
        have hhead := Bm.chain_head N u us' (fun x hx => hlt64.out x (List.mem_cons_of_mem _ hx)) hcv.out
        have hcs : (List.replicate (8 * (us'.length + 1)) 0 ++ (Bm.bytesOf N L).drop (8 * (us'.length + 1))).length = L := by
          rw [List.length_append, List.length_replicate, List.length_drop, Bm.bytesOf_length]; omega
        have hfl : ∀ w3, Row w3 w.heap.size 5 (u8s (Bm.fillB (List.replicate (8 * (us'.length + 1)) 0 ++ (Bm.bytesOf N L).drop (8 * (us'.length + 1))) r (min (L - r) 8) u)) →
            Row w3 w.heap.size 5 (u8s (List.replicate (8 * us'.length) 0 ++ (Bm.bytesOf N L).drop (8 * us'.length))) := fun w3 h3 => by
          have e := Bm.bytes_step N L us'.length (by omega)
          rw [← hhead.1, ← hr, show 8 = min (L - r) 8 by omega] at e
          rw [show min (L - r) 8 = 8 by omega] at h3
          rw [show min (L - r) 8 = 8 by omega, hr] at e
          rw [← e, ← hr]
          exact h3
        have Hfl := Lib.hid hfl
        have Hcs := Lib.hid hcs
        have Hcv := Lib.hid hhead.2
        clear hr hch1 hr1 hch hle hfl hcs hhead hcv
        go_wp2
        go_still_tail 7, (by kernel_rfl)
        change wpList _ _ _ _ _ wr.drew
        clear hsa
        go_wp2_with fail
        refine (fill_some w.heap.size r (L - r) _ u _ wr.drew (by rw [Hcs.out]; omega) (by rw [Hcs.out]; exact hLs) hrw.out).mono ?_
        rintro e w3 ⟨rfl, hrow3, hgr3⟩
        have Hrow3 := Lib.hid (Hfl.out w3 hrow3)
        have hb3 : Below w.heap.size w w3 := hbl.out.drew.grown hgr3 (by have := hbl.out.size; simpa using this) (fun k e => by injection e with e; omega)
        have c0' : w3.cell? ⟨g1, 0, none⟩ = some (.pointer q1) := (hb3.cell (p := ⟨g1, 0, none⟩) hg1).trans ((hbl.out.cell (p := ⟨g1, 0, none⟩) hg1).symm.trans c0)
        have Hb3 := Lib.hid hb3
        clear hb3 hrow3 hgr3 c0 c1 hrw Hfl Hcs
        go_wp2
        go_roundw
        case rel => exact ⟨us', q1, by rw [Hr.out], rfl, Hch1, Hrow3, Hb3, Hcv, fun x hx => hlt64.out x (List.mem_cons_of_mem _ hx), by have := Hr.out; omega⟩
        case measure => simp [intOf]; omega
end Go.Proofs.Ytefcahmhfjblpaa
