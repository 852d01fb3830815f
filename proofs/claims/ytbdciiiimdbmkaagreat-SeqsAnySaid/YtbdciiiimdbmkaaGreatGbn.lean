/-
  The program's layer 16 (seqs): Decode, by its walk. Conditions: as the theorem's premises say (a Reader of up to a hundred million bytes, any most).
  The reference's layer 16: Decode, by its walk. Conditions: as each theorem's premises say (strings of up to 50000 bytes).
  The reference's layer 16: Decode of one step or more, by its walk. Conditions: as the theorem's premises say (strings of up to 50000 bytes).
-/
import Derived.Test.YtbdciiiimdbmkaaGreatGaw
import Derived.Test.YtbdciiiimdbmkaaGreatGbm
import Derived.Test.YtbdciiiimdbmkaaGreatGbl
import Derived.Test.YtbdciiiimdbmkaaGreatGbg
import Derived.Test.YtbdciiiimdbmkaaGreatGad
import Derived.Test.YtbdciiiimdbmkaaGreatGau
import Derived.Test.YtbdciiiimdbmkaaGreatGae
import Derived.Test.YtbdciiiimdbmkaaGreatGap
import Derived.Lib.MinMax
import Derived.Deep.RegionHeld3
namespace Go.Proofs.YtbdciiiimdbmkaaGreat
open Go.RowKit

/-- Steps and true with what is left, or none and false. -/
def SecR (w' : World) (b : Nat) (bs : List Nat) (e : Ending) : Option (List Bm.Stp × Nat) → Prop
  | none => ∃ A c, e = .returned (.tuple #[.slice A 0 c, .bool false])
  | some t => (∃ A c, e = .returned (.tuple #[.slice A t.1.length c, .bool true]) ∧ StpR w' A t.1) ∧ CR w' b (some (bs.drop t.2))
/-- Bytes that are read lie in no block whose cells are none. -/
theorem reads_notB {w w' : World} {A : Option Addr} {l : List Nat} {b : Nat} {t : TypeId} {cs : List Value} (h : Row w b t cs) (hn : ∀ (m : Nat) (z : Int), cs[m]? ≠ some (.int .u8 z)) (hr : Reads w A (u8s l)) (hg : w.grownBy w' (some b)) : Reads w' A (u8s l) := fun hne => by
  obtain ⟨g, off, rfl, hc⟩ := hr hne
  refine ⟨g, off, rfl, fun j hj => ?_⟩
  have h1 := hc j hj
  rw [u8s_length] at hj
  rw [u8s_get? l j hj] at h1 ⊢
  refine hg.cell h1 (fun e => ?_)
  injection e with e
  dsimp only at e
  subst e
  exact hn _ _ ((Row.cell h (off + j)).symm.trans h1)
theorem rcells_notB (st : Left) (m : Nat) (z : Int) : (rcells st)[m]? ≠ some (.int .u8 z) := by
  intro hx
  rcases st with _ | bs
  all_goals
    match m, hx with
    | 0, hx => simp [rcells] at hx
    | 1, hx => simp [rcells] at hx
    | m + 2, hx => simp [rcells] at hx
/-- The slices of streams that were read, and nothing. -/
def slsV (n : Nat) (Ss : List (Option Addr × Nat × List Nat)) (m : Nat) : List Value := (Ss.map fun s => Value.slice s.1 n s.2.1) ++ List.replicate m (.slice none 0 0)
theorem slsV_notB (n m : Nat) (Ss : List (Option Addr × Nat × List Nat)) (i : Nat) (z : Int) : (slsV n Ss m)[i]? ≠ some (.int .u8 z) := by
  intro h
  have hm := List.mem_of_getElem? h
  unfold slsV at hm
  rcases List.mem_append.1 hm with hm | hm
  · obtain ⟨s, _, e⟩ := List.mem_map.1 hm
    cases e
  · rw [List.mem_replicate] at hm
    cases hm.2
def SlsR (w : World) (n : Nat) (Ss : List (Option Addr × Nat × List Nat)) : Prop := ∀ s ∈ Ss, (s.2.2.length = n ∧ ∀ x ∈ s.2.2, x < 28) ∧ Reads w s.1 (u8s s.2.2)
theorem SlsR.notB {w w' : World} {n : Nat} {Ss : List (Option Addr × Nat × List Nat)} {b : Nat} {t : TypeId} {cs : List Value} (hs : SlsR w n Ss) (h : Row w b t cs) (hn : ∀ (m : Nat) (z : Int), cs[m]? ≠ some (.int .u8 z)) (hg : w.grownBy w' (some b)) : SlsR w' n Ss :=
  fun s hm => ⟨(hs s hm).1, reads_notB h hn (hs s hm).2 hg⟩
theorem SlsR.below {w w' : World} {n : Nat} {Ss : List (Option Addr × Nat × List Nat)} (hs : SlsR w n Ss) (hb : Below w.heap.size w w') : SlsR w' n Ss :=
  fun s hm => ⟨(hs s hm).1, reads_on (hs s hm).2 hb⟩
set_option maxHeartbeats 1000000 in
set_option maxRecDepth 100000 in
theorem qdec_no (b : Nat) (bs : List Nat) (most : Int) (w : World)
    (hint : Calls Tryz.prog 29 #[.pointer (some ⟨b, 0, none⟩), .int .i64 (min most 1000)] w fun e w' => e = .returned (.int .i64 0) ∧ CR w' b none ∧ w.grownBy w' (some b)) :
    Calls Tryz.prog 10 #[.pointer (some ⟨b, 0, none⟩), .int .i64 most] w fun e w' => SecR w' b bs e none ∧ w.grownBy w' (some b) := by
  have H1 := Lib.hid hint
  clear hint
  go_enter Tryz.func10, Tryz.ntmps10
  go_wp2_with fail
  refine H1.out.mono ?_
  rintro e w1 ⟨rfl, hc1, hg1⟩
  have Hb := Lib.hid (rbad_any b none w1 hc1)
  have Hg1 := Lib.hid hg1
  clear hc1 hg1 H1
  go_wp2_with fail
  refine Hb.out.mono ?_
  rintro e w3 ⟨rfl, rfl⟩
  clear Hb
  go_wp2
  go_ret2
  exact ⟨⟨_, _, rfl⟩, Hg1.out⟩
set_option maxHeartbeats 1000000 in
set_option maxRecDepth 100000 in
theorem qdec_zero (b k : Nat) (bs : List Nat) (most : Int) (w : World)
    (hint : Calls Tryz.prog 29 #[.pointer (some ⟨b, 0, none⟩), .int .i64 (min most 1000)] w fun e w' => e = .returned (.int .i64 0) ∧ CR w' b (some (bs.drop k)) ∧ w.grownBy w' (some b)) :
    Calls Tryz.prog 10 #[.pointer (some ⟨b, 0, none⟩), .int .i64 most] w fun e w' => SecR w' b bs e (some ([], k)) ∧ w.grownBy w' (some b) := by
  have H1 := Lib.hid hint
  clear hint
  go_enter Tryz.func10, Tryz.ntmps10
  go_wp2_with fail
  refine H1.out.mono ?_
  rintro e w1 ⟨rfl, hc1, hg1⟩
  have Hb := Lib.hid (rbad_any b _ w1 hc1)
  have Hg1 := Lib.hid hg1
  have Hc1 := Lib.hid hc1
  clear hc1 hg1 H1
  go_wp2_with fail
  refine Hb.out.mono ?_
  rintro e w3 ⟨rfl, rfl⟩
  clear Hb
  go_wp2
  go_ret2
  exact ⟨⟨⟨_, _, rfl, fun h => absurd h (by simp)⟩, Hc1.out⟩, Hg1.out⟩
set_option maxHeartbeats 4000000 in
set_option maxRecDepth 100000 in
theorem qdec_more (b k n : Nat) (bs : List Nat) (most : Int) (w : World) (hn0 : 1 ≤ n) (hn : n ≤ 1000) (hl : bs.length ≤ 100000000) (hlt : ∀ x ∈ bs, x < 256)
    (hint : Calls Tryz.prog 29 #[.pointer (some ⟨b, 0, none⟩), .int .i64 (min most 1000)] w fun e w' => e = .returned (.int .i64 (n : Int)) ∧ CR w' b (some (bs.drop k)) ∧ w.grownBy w' (some b)) :
    Calls Tryz.prog 10 #[.pointer (some ⟨b, 0, none⟩), .int .i64 most] w fun e w' => SecR w' b bs e (match Bm.strsD 3 (bs.drop k) n with
      | none => none
      | some p => match Bm.txtD ((bs.drop k).drop p.2) with
        | none => none
        | some q => (Bm.stepsD p.1 n q.1).map fun l => (l, k + p.2 + q.2)) ∧ w.grownBy w' (some b) := by
  obtain ⟨res, hres⟩ : ∃ res, res = (match Bm.strsD 3 (bs.drop k) n with
      | none => none
      | some p => match Bm.txtD ((bs.drop k).drop p.2) with
        | none => none
        | some q => (Bm.stepsD p.1 n q.1).map fun l => (l, k + p.2 + q.2)) := ⟨_, rfl⟩
  rw [← hres]
  obtain ⟨S3, hS3⟩ : ∃ S3, S3 = Bm.strsD 3 (bs.drop k) n := ⟨_, rfl⟩
  rw [← hS3] at hres
  have HS3 := Lib.hid hS3
  have Hres := Lib.hid hres
  have H1 := Lib.hid hint
  have Hun := Lib.hid (fun m W (hc : CR W b (some (bs.drop m))) => qunstr_any b n (bs.drop m) W (by rw [List.length_drop]; omega) (drop_lt hlt m) hn0 (by omega) hc)
  have Htx := Lib.hid (fun m W (hc : CR W b (some (bs.drop m))) => rtext_any b (some (bs.drop m)) 4096 W (by omega) (by omega) ⟨drop_lt hlt m, by rw [List.length_drop]; omega⟩ hc)
  have Hlt := Lib.hid (fun m => drop_lt hlt m)
  have dn : ((n : Int) == 0) = false := by rw [beq_eq_false_iff_ne]; omega
  clear hint hres hlt hl hS3
  go_enter Tryz.func10, Tryz.ntmps10
  go_wp2_with fail
  refine H1.out.mono ?_
  rintro e w1 ⟨rfl, hc1, hg1⟩
  have Hb := Lib.hid (rbad_any b _ w1 hc1)
  have Hg1 := Lib.hid hg1
  have Hc1 := Lib.hid hc1
  clear hc1 hg1 H1
  go_wp2_with fail
  refine Hb.out.mono ?_
  rintro e w3 ⟨rfl, rfl⟩
  clear Hb
  obtain ⟨ba, hba⟩ : ∃ ba, w1.heap.size = ba := ⟨_, rfl⟩
  have hra := Row.new w1 46 (slsV n [] 3)
  have hbel := (Below.refl w1.heap.size w1).alloc (Nat.le_refl _) (.cells #[.slice none 0 0, .slice none 0 0, .slice none 0 0] 46)
  have e3 : w1.alloc (.cells (slsV n [] 3).toArray 46) = w1.alloc (.cells #[.slice none 0 0, .slice none 0 0, .slice none 0 0] 46) := rfl
  rw [e3, hba] at hra
  have Hra := Lib.hid hra
  have Hba := Lib.hid hba
  have Hc2 := Lib.hid (Hc1.out.below hbel)
  have Hg2 := Lib.hid (grown_trans Hg1.out (grown_below hbel _))
  have hbb : b < ba := by rw [← hba]; exact Hc1.out.lt
  have hws : w.heap.size ≤ ba := by rw [← hba]; exact Hg1.out.size
  clear hra hbel e3 hba Hc1 Hg1
  go_wp2
  rw [Hba.out]
  generalize w1.alloc (.cells #[.slice none 0 0, .slice none 0 0, .slice none 0 0] 46) = wA at *
  clear Hba
  go_loopw [8, 9, 10, 20] (fun _ _ _ i wr => ∃ (j at_ : Nat) (Ss : List (Option Addr × Nat × List Nat)), i = .int .i64 (j : Int) ∧ j ≤ 3 ∧ Hid (Ss.length = j) ∧ Hid (Row wr ba 46 (slsV n Ss (3 - j))) ∧ Hid (SlsR wr n Ss) ∧ Hid (CR wr b (some (bs.drop (k + at_)))) ∧ Hid (w.grownBy wr (some b)) ∧
    Hid (S3 = (Bm.strsD (3 - j) (bs.drop (k + at_)) n).map fun q => (Ss.map (fun s => s.2.2) ++ q.1, at_ + q.2))) (fun _ _ _ i _ => 3 - (intOf i).toNat)
  case atStart =>
    refine ⟨0, 0, [], rfl, by omega, Lib.hid rfl, Hra, Lib.hid (fun s hs => by cases hs), Hc2, Hg2, Lib.hid ?_⟩
    rw [Nat.add_zero, Nat.sub_zero, HS3.out]
    cases Bm.strsD 3 (bs.drop k) n <;> simp
  case round =>
    obtain ⟨j, at_, Ss, rfl, hj, hSl, hrow, hsl, hcr, hg, hstr⟩ := hrel
    clear Hra Hc2 Hg2
    by_cases hj3 : j < 3
    · have dj : (j : Int) < 3 := by omega
      have Hcall := Lib.hid (Hun.out (k + at_) wr hcr.out)
      have Hstr := Lib.hid hstr.out
      obtain ⟨d, hd⟩ : ∃ d, 3 - j = d + 1 := ⟨3 - j - 1, by omega⟩
      rw [hd, Bm.strsD] at Hstr
      have Hmem := Lib.hid (fun l kk h => Bm.str_mem (bs.drop (k + at_)) n (Hlt.out _) l kk h)
      have hrow' := hrow.out
      rw [hd] at hrow'
      have Hrow := Lib.hid hrow'
      have Hd := Lib.hid (show 3 - (j + 1) = d by omega)
      have hcr0 := hcr
      clear hstr hcr hrow hrow' hd
      cases hs : Bm.strD (bs.drop (k + at_)) n with
      | none =>
        rw [hs] at Hstr Hcall
        dsimp only at Hstr
        have Hend : Hid (res = none) := Lib.hid (by rw [Hres.out, Hstr.out]; rfl)
        clear Hstr Hun Htx Hlt Hres Hmem hs hsl Hrow Hd hcr0
        go_wp2_with fail
        refine Hcall.out.mono ?_
        rintro e w4 ⟨⟨A, c, rfl⟩, hg4⟩
        have Hg4 := Lib.hid (grown_trans hg.out hg4)
        clear hg4 Hcall hg
        go_wp2
        go_ret2
        rw [Hend.out]
        exact ⟨⟨_, _, rfl⟩, Hg4.out⟩
      | some t =>
        obtain ⟨l, kk⟩ := t
        rw [hs] at Hstr Hcall
        dsimp only at Hstr
        have hm := Hmem.out l kk hs
        have Hm := Lib.hid hm
        rw [List.drop_drop] at Hstr
        clear Hmem hs
        go_wp2_with fail
        refine Hcall.out.mono ?_
        rintro e w4 ⟨⟨⟨A, c, rfl, hrd⟩, hc4⟩, hg4⟩
        dsimp only at hrd hc4 ⊢
        rw [List.drop_drop] at hc4
        have hrow4 := Hrow.out.keep (hg4.block ba Hrow.out.lt (by simp; omega))
        have hsl4 := hsl.out.notB hcr0.out (rcells_notB _) hg4
        have hnA : Reads (w4.setCell ⟨ba, j, none⟩ (.slice A n c)) A (u8s l) := reads_notB hrow4 (slsV_notB n (d + 1) Ss) hrd (grown_one w4 ⟨ba, j, none⟩ (.slice A n c))
        have hsl5 := hsl4.notB hrow4 (slsV_notB n (d + 1) Ss) (grown_one w4 ⟨ba, j, none⟩ (.slice A n c))
        have hc5 : CR (w4.setCell ⟨ba, j, none⟩ (.slice A n c)) b (some (bs.drop (k + at_ + kk))) := hc4.keep (grown_one w4 ⟨ba, j, none⟩ (.slice A n c)) (by simp; omega)
        have hrow5 := hrow4.set_ j (.slice A n c)
        have hset : (slsV n Ss (d + 1)).set j (.slice A n c) = slsV n (Ss ++ [(A, c, l)]) d := by
          unfold slsV
          rw [List.set_append_right _ _ (by rw [List.length_map, hSl.out]; omega), List.length_map, hSl.out, Nat.sub_self, List.replicate_succ, List.set_cons_zero, List.map_append, List.append_assoc]
          rfl
        rw [hset] at hrow5
        have f0 := hrow4.free j
        have hsome : ∃ u, w4.cell? ⟨ba, j, none⟩ = some u := by
          rw [hrow4.cell]
          unfold slsV
          rw [List.getElem?_append_right (by rw [List.length_map, hSl.out]; omega), List.length_map, hSl.out, Nat.sub_self]
          exact ⟨_, rfl⟩
        obtain ⟨u0, hu0⟩ := hsome
        have hg5 : w.grownBy (w4.setCell ⟨ba, j, none⟩ (.slice A n c)) (some b) := by
          have h1 := grown_trans hg.out hg4
          exact ⟨h1.os, h1.tape, h1.output, by have := h1.size; simpa [World.setCell] using this, fun i hi hne => by
            rw [← h1.block i hi hne]
            exact Below.heap_setCell w4 ⟨ba, j, none⟩ _ i (by show i ≠ ba; omega)⟩
        have Hsl5 : Hid (SlsR (w4.setCell ⟨ba, j, none⟩ (.slice A n c)) n (Ss ++ [(A, c, l)])) := Lib.hid (fun s hs => by
          rcases List.mem_append.1 hs with hs | hs
          · exact hsl5 s hs
          · rw [List.mem_singleton.1 hs]; exact ⟨Hm.out, hnA⟩)
        have Hrow5 := Lib.hid hrow5
        have Hc5 := Lib.hid hc5
        have Hg5 := Lib.hid hg5
        have Hlen : Hid (l.length = n) := Lib.hid Hm.out.1
        have hln := Hlen.out
        rw [hln]
        clear hrow4 hsl4 hnA hsl5 hc5 hrow5 hset hg5 hm hrd hc4 hg4 hsl hg Hrow Hm Hcall hln hcr0
        go_wp2
        go_roundw
        case rel =>
          refine ⟨j + 1, at_ + kk, Ss ++ [(A, c, l)], by go_num, by omega, Lib.hid (by rw [List.length_append, hSl.out]; rfl), by rw [Hd.out]; exact Hrow5, Hsl5, by rw [← Nat.add_assoc]; exact Hc5, Hg5, Lib.hid ?_⟩
          rw [Hstr.out, Hd.out, ← Nat.add_assoc]
          cases Bm.strsD d (bs.drop (k + at_ + kk)) n <;> simp [Nat.add_assoc]
        case measure => simp [intOf]; omega
    · have hj3e : j = 3 := by omega
      subst hj3e
      obtain ⟨s0, s1, s2, hS3⟩ : ∃ s0 s1 s2, Ss = [s0, s1, s2] := by
        match Ss, hSl.out with
        | [x, y, z], _ => exact ⟨x, y, z, rfl⟩
      subst hS3
      have Hstr := Lib.hid hstr.out
      rw [Nat.sub_self, Bm.strsD, Option.map_some, List.append_nil, Nat.add_zero] at Hstr
      have hrow2 : Row wr ba 46 [.slice s0.1 n s0.2.1, .slice s1.1 n s1.2.1, .slice s2.1 n s2.2.1] := hrow.out
      obtain ⟨x0, x1, x2⟩ := row3 hrow2
      have Hcall := Lib.hid (Htx.out (k + at_) wr hcr.out)
      have Hres2 := Lib.hid Hres.out
      rw [Hstr.out] at Hres2
      simp only [List.map_cons, List.map_nil] at Hres2
      rw [List.drop_drop] at Hres2
      have Hrow := Lib.hid hrow2
      have hcr0 := hcr
      clear hstr hrow hrow2 Hres Hstr hSl Htx Hun hcr
      cases htx : Bm.txtD (bs.drop (k + at_)) with
      | none =>
        have Hc2 := Lib.hid Hcall.out
        rw [txt_none _ htx] at Hc2
        rw [htx] at Hres2
        dsimp only at Hres2
        clear htx Hcall Hlt hsl Hrow
        go_wp2_with fail
        refine Hc2.out.mono ?_
        rintro e w4 ⟨rfl, hc4, hg4⟩
        have Hb := Lib.hid (rbad_any b none w4 hc4)
        have Hg4 := Lib.hid (grown_trans hg.out hg4)
        clear hc4 hg4 hg Hc2
        go_wp2_with fail
        refine Hb.out.mono ?_
        rintro e w5 ⟨rfl, rfl⟩
        clear Hb
        go_wp2
        go_ret2
        rw [Hres2.out]
        exact ⟨⟨_, _, rfl⟩, Hg4.out⟩
      | some q =>
        obtain ⟨bd, m⟩ := q
        obtain ⟨e1, hl1⟩ := txt_some _ _ htx
        have hm1 := txt_mem _ _ htx (Hlt.out _)
        have Hc2 := Lib.hid Hcall.out
        rw [e1] at Hc2
        rw [htx] at Hres2
        dsimp only at Hres2 Hc2 hl1 hm1
        rw [List.drop_drop] at Hc2
        have Hconv := Lib.hid (fun W => conv_back W bd hm1)
        have Hst := Lib.hid (fun W A c (h : SlsR W n [s0, s1, s2]) hr => qsteps_any s0.1 s1.1 s2.1 A s0.2.1 s1.2.1 s2.2.1 c n s0.2.2 s1.2.2 s2.2.2 bd W hn (h s0 (by simp)).1 (h s1 (by simp)).1 (h s2 (by simp)).1 (h s0 (by simp)).2 (h s1 (by simp)).2 (h s2 (by simp)).2 hl1 hm1 hr)
        obtain ⟨rr, hrr⟩ : ∃ rr, rr = Bm.stepsD [s0.2.2, s1.2.2, s2.2.2] n bd := ⟨_, rfl⟩
        rw [← hrr] at Hst Hres2
        clear htx e1 Hcall Hlt hrr hm1
        generalize hstrb : strOf bd = sb at *
        clear hstrb
        go_wp2_with fail
        refine Hc2.out.mono ?_
        rintro e w4 ⟨rfl, hc4, hg4⟩
        have Hb := Lib.hid (rbad_any b _ w4 hc4)
        have Hg4 := Lib.hid (grown_trans hg.out hg4)
        have Hsl4 := Lib.hid (hsl.out.notB hcr0.out (rcells_notB _) hg4)
        have hrow4 := Hrow.out.keep (hg4.block ba Hrow.out.lt (by simp; omega))
        obtain ⟨y0, y1, y2⟩ := row3 hrow4
        have Hc4 := Lib.hid hc4
        clear hc4 hg4 hg Hc2 hsl hcr0 Hrow hrow4 x0 x1 x2
        go_wp2_with fail
        refine Hb.out.mono ?_
        rintro e w5 ⟨rfl, rfl⟩
        obtain ⟨w6, cap, hconv, hcell, hb6⟩ := Hconv.out w4
        have hrs : Reads w6 (some ⟨w4.heap.size, 0, none⟩) (u8s bd) := fun _ => ⟨_, _, rfl, fun j hj => by
          rw [u8s_length] at hj
          rw [Nat.zero_add, hcell j hj, u8s_get? bd j hj]⟩
        have Hst6 := Lib.hid (Hst.out w6 _ cap (Hsl4.out.below hb6) hrs)
        have Hg6 := Lib.hid (grown_trans Hg4.out (grown_below hb6 _))
        have Hc6 := Lib.hid (Hc4.out.below hb6)
        clear Hb hcell hb6 hrs Hst Hsl4 Hg4 Hc4 Hconv
        go_wp2_with fail
        refine Hst6.out.mono ?_
        rintro e w7 ⟨hsp, hb7⟩
        have Hg7 := Lib.hid (grown_trans Hg6.out (grown_below hb7 _))
        have Hc7 := Lib.hid (Hc6.out.below hb7)
        clear hb7 Hst6 Hg6 Hc6 hconv y0 y1 y2
        cases rr with
        | none =>
          obtain ⟨A, c, rfl⟩ := hsp
          go_wp2
          go_ret2
          rw [Hres2.out]
          exact ⟨⟨_, _, rfl⟩, Hg7.out⟩
        | some l =>
          obtain ⟨A, c, rfl, hrd⟩ := hsp
          have Hrd := Lib.hid hrd
          clear hrd
          go_wp2
          go_ret2
          rw [Hres2.out]
          exact ⟨⟨⟨_, _, rfl, Hrd.out⟩, Hc7.out⟩, Hg7.out⟩
/-- What Decode answers: the steps of the section that comes next, or none. -/
theorem qdec_any (b : Nat) (bs : List Nat) (most : Int) (w : World) (h0 : -9223372036854775808 ≤ most) (h1 : most ≤ 9223372036854775807) (hl : bs.length ≤ 100000000) (hlt : ∀ x ∈ bs, x < 256) (h : CR w b (some bs)) :
    Calls Tryz.prog 10 #[.pointer (some ⟨b, 0, none⟩), .int .i64 most] w fun e w' => SecR w' b bs e (Bm.secD bs most) ∧ w.grownBy w' (some b) := by
  have hint := rint_any b (some bs) (min most 1000) w (by omega) (by omega) ⟨hlt, hl⟩ h
  by_cases hc : 0 < (Bm.firstG bs).2 ∧ ((Bm.firstG bs).1 : Int) ≤ min most 1000
  · rw [int_yes _ bs hc.1 hc.2] at hint
    dsimp only at hint
    by_cases hz : (Bm.firstG bs).1 = 0
    · rw [Bm.sec_zero bs most hc hz]
      rw [hz] at hint
      exact qdec_zero b _ bs most w hint
    · rw [Bm.sec_more bs most hc hz]
      exact qdec_more b _ _ bs most w (by omega) (by omega) hl hlt hint
  · rw [int_no _ bs hc] at hint
    rw [Bm.sec_no bs most hc]
    exact qdec_no b bs most w hint
end Go.Proofs.YtbdciiiimdbmkaaGreat

namespace Go.Proofs.YtbdciiiimdbmkaaGreat
open Go.RowKit

namespace Bm
theorem str_le (bs : List Nat) (n : Nat) (hn : 1 ≤ n) (r : List Nat × Nat) (h : strD bs n = some r) : 0 < r.2 ∧ r.2 ≤ bs.length := by
  rw [str_read] at h
  cases bs with
  | nil => cases h
  | cons k t =>
    split at h
    · cases h
    · next q hq =>
      split at h
      · injection h with h
        subst h
        by_cases h0 : k = 0
        · subst h0
          rw [read_0] at hq
          split at hq
          · injection hq with hq
            subst hq
            exact ⟨by dsimp only; omega, by rw [List.length_cons]; dsimp only; omega⟩
          · cases hq
        · by_cases h1 : k = 1
          · subst h1
            rw [read_1] at hq
            split at hq
            · injection hq with hq
              subst hq
              exact ⟨by dsimp only; omega, by rw [List.length_cons]; dsimp only; omega⟩
            · cases hq
          · by_cases h2 : k = 2
            · subst h2
              rw [read_2] at hq
              cases hd : sharedD t n with
              | none => rw [hd] at hq; cases hq
              | some x =>
                rw [hd, Option.map_some] at hq
                injection hq with hq
                subst hq
                obtain ⟨a, b⟩ := shared_pos t n x hd
                exact ⟨by dsimp only; omega, by rw [List.length_cons]; dsimp only; omega⟩
            · rw [read_3 k t n (by omega)] at hq; cases hq
      · cases h
theorem extra_ex (c : Nat) (h : c < 28) : extraI c = (exK c : Int) := by
  unfold extraI exK
  by_cases h1 : c < 16
  · rw [if_pos h1, if_pos h1]; rfl
  · rw [if_neg h1, if_neg (by omega), if_neg h1]
end Bm
/-- What the reference's Decode answers. -/
def RdP (w' : World) (e : Ending) : Option (List Bm.Stp × Nat) → Prop
  | none => e = .returned (.tuple #[.slice none 0 0, .int .i64 0])
  | some t => ∃ A c, e = .returned (.tuple #[.slice A t.1.length c, .int .i64 (t.2 : Int)]) ∧ StpR w' A t.1
/-- The bits of bytes, in a new block. -/
theorem rbits_s (A : Option Addr) (c : Nat) (bs : List Nat) (w : World) (hn : bs.length ≤ 100000) (hbs : ∀ b ∈ bs, b < 256) (hr : Reads w A (u8s bs)) (hA : ∀ a, A = some a → 0 < bs.length → a.block < w.heap.size) :
    Calls Tryz.prog 22 #[.slice A bs.length c] w fun e w' => ∃ A' c', e = .returned (.slice A' (8 * bs.length) c') ∧ 8 * bs.length ≤ c' ∧ c' ≤ maxLen ∧ Reads w' A' (i64s (Bm.bitsOf (Bm.valB bs) (8 * bs.length))) ∧ (∀ a, A' = some a → a.block < w'.heap.size) ∧ Below w.heap.size w w' := by
  refine (rbits_any A c bs w hn hbs hr hA).mono ?_
  rintro e w' ⟨u, rfl, ho, hbl⟩
  obtain ⟨A', c', hc', hcm', hmx, _⟩ := own_rest ho
  obtain ⟨A2, c2, hform, hrd, hbk⟩ := own_reads ho
  rw [hc'] at hform
  injection hform with e1 e2 e3
  subst e1 e3
  exact ⟨A', c', by rw [hc'], hcm', hmx, hrd, fun a e => (hbk a e).2.1, hbl⟩
theorem behind_block (A : Option Addr) (c q n : Nat) (h : ∀ a, A = some a → a.block < n) : ∀ a, behindA A c q = some a → a.block < n := by
  intro a ha
  unfold behindA at ha
  split at ha
  · exact h a ha
  · obtain ⟨x, hx, rfl⟩ := Option.map_eq_some_iff.1 ha
    have := h x hx
    unfold Addr.add
    split <;> simpa using this
/-- What stands in the loop of the steps: what was below is as it was; the recent offsets; the steps that were read. -/
structure RdO (wA W : World) (bc B : Nat) (r : Int × Int × Int) (u : Value) (D : List Bm.Stp) : Prop where
  bel : Below bc wA W
  rec_ : Row W bc 59 [.int .i64 r.1, .int .i64 r.2.1, .int .i64 r.2.2]
  own : W.ownsRow B 38 3 u D.length (sqs D)
  low : bc < B ∧ B ≤ W.heap.size
section
variable {wA W W' : World} {bc B : Nat} {r : Int × Int × Int} {u : Value} {D : List Bm.Stp}
theorem RdO.below (h : RdO wA W bc B r u D) (hb : Below W.heap.size W W') : RdO wA W' bc B r u D := by
  have hs := hb.size
  have hl := h.low
  refine ⟨h.bel.trans (hb.mono (by omega)), h.rec_.below hb, h.own.kept (row := none) (grown_below hb none) (by cases u.ownBlock <;> simp), by omega⟩
theorem RdO.far (h : RdO wA W bc B r u D) {p : Addr} (hp : B ≤ p.block) (hne : ∀ x, u.ownBlock = some x → x ≠ p.block) (v : Value) : RdO wA (W.setCell p v) bc B r u D := by
  have hl := h.low
  refine ⟨h.bel.setCell (by omega) v, h.rec_.far (by omega) v, ?_, by simpa [World.setCell] using hl⟩
  refine h.own.kept (grown_one W p v) ?_
  cases hu : u.ownBlock with
  | none => exact .inl rfl
  | some x => exact .inr (fun e => by injection e with e; exact hne x hu e)
theorem RdO.turn (h : RdO wA W bc B r u D) (a b c : Int) : RdO wA (((W.setCell ⟨bc, 0, none⟩ (.int .i64 a)).setCell ⟨bc, 1, none⟩ (.int .i64 b)).setCell ⟨bc, 2, none⟩ (.int .i64 c)) bc B (a, b, c) u D := by
  have hl := h.low
  have hx : ∀ x, u.ownBlock = some x → x ≠ bc := fun x e => by have := (h.own.lt x e).1; omega
  have k1 : ∀ (W : World) (i : Nat) (v : Value), W.ownsRow B 38 3 u D.length (sqs D) → (W.setCell ⟨bc, i, none⟩ v).ownsRow B 38 3 u D.length (sqs D) := fun W i v ho => by
    refine ho.kept (grown_one W ⟨bc, i, none⟩ v) ?_
    cases hu : u.ownBlock with
    | none => exact .inl rfl
    | some x => exact .inr (fun e => by injection e with e; exact hx x hu e)
  have r3 := ((h.rec_.set_ 0 (.int .i64 a)).set_ 1 (.int .i64 b)).set_ 2 (.int .i64 c)
  simp only [List.set_cons_zero, List.set_cons_succ] at r3
  exact ⟨((h.bel.setCell (Nat.le_refl _) _).setCell (Nat.le_refl _) _).setCell (Nat.le_refl _) _, r3, k1 _ _ _ (k1 _ _ _ (k1 _ _ _ h.own)), by simpa [World.setCell] using hl⟩
end
set_option maxHeartbeats 1000000 in
set_option maxRecDepth 100000 in
theorem qrdec_no (s : ByteArray) (v k : Nat) (most : Int) (w : World) (hv : v < 18446744073709551616) (hk : k ≤ 100000) (hm : Bm.IntOk most) (h : ¬ (0 < k ∧ (v : Int) ≤ most ∧ v ≤ 1000))
    (hf : Calls Tryz.prog 19 #[.string s] w fun e w' => e = .returned (.tuple #[.int .u64 (v : Int), .int .i64 (k : Int)]) ∧ Below w.heap.size w w') :
    Calls Tryz.prog 8 #[.string s, .int .i64 most] w fun e w' => RdP w' e none ∧ Below w.heap.size w w' := by
  have Hf := Lib.hid hf
  have key : k = 0 ∨ (((k : Int) == 0) = false ∧ decide (most < 0) = true) ∨ (((k : Int) == 0) = false ∧ decide (most < 0) = false ∧ IntKind.u64.wrap most = most ∧ decide (most < (v : Int)) = true) ∨
      (((k : Int) == 0) = false ∧ decide (most < 0) = false ∧ IntKind.u64.wrap most = most ∧ decide (most < (v : Int)) = false ∧ decide ((1000 : Int) < (v : Int)) = true ∧ decide (1000 < v) = true) := by
    unfold Bm.IntOk at hm
    by_cases h1 : k = 0
    · exact .inl h1
    · have e1 : ((k : Int) == 0) = false := by rw [beq_eq_false_iff_ne]; omega
      by_cases h2 : most < 0
      · exact .inr (.inl ⟨e1, decide_eq_true h2⟩)
      · have e2 : IntKind.u64.wrap most = most := by rw [IntKind.wrap_u64]; omega
        by_cases h3 : most < (v : Int)
        · exact .inr (.inr (.inl ⟨e1, decide_eq_false h2, e2, decide_eq_true h3⟩))
        · exact .inr (.inr (.inr ⟨e1, decide_eq_false h2, e2, decide_eq_false h3, decide_eq_true (by omega), decide_eq_true (by omega)⟩))
  unfold Bm.IntOk at hm
  clear hf h
  rcases key with rfl | ⟨e1, e2⟩ | ⟨e1, e2, e3, e4⟩ | ⟨e1, e2, e3, e4, e5, e6⟩
  all_goals
    go_enter Tryz.func8, Tryz.ntmps8
    go_wp2_with fail
    refine Hf.out.mono ?_
    rintro e w1 ⟨rfl, hb1⟩
    have Hb1 := Lib.hid hb1
    clear hb1 Hf
    go_wp2
    go_ret2
    exact ⟨rfl, Hb1.out⟩
set_option maxHeartbeats 1000000 in
set_option maxRecDepth 100000 in
theorem qrdec_zero (s : ByteArray) (k : Nat) (most : Int) (w : World) (hk0 : 0 < k) (hk : k ≤ 100000) (hm : 0 ≤ most ∧ most ≤ 9223372036854775807)
    (hf : Calls Tryz.prog 19 #[.string s] w fun e w' => e = .returned (.tuple #[.int .u64 0, .int .i64 (k : Int)]) ∧ Below w.heap.size w w') :
    Calls Tryz.prog 8 #[.string s, .int .i64 most] w fun e w' => RdP w' e (some ([], k)) ∧ Below w.heap.size w w' := by
  have Hf := Lib.hid hf
  have e1 : ((k : Int) == 0) = false := by rw [beq_eq_false_iff_ne]; omega
  have e2 : decide (most < 0) = false := decide_eq_false (by omega)
  have e3 : IntKind.u64.wrap most = most := by rw [IntKind.wrap_u64]; omega
  clear hf hk0
  go_enter Tryz.func8, Tryz.ntmps8
  go_wp2_with fail
  refine Hf.out.mono ?_
  rintro e w1 ⟨rfl, hb1⟩
  have Hb1 := Lib.hid hb1
  clear hb1 Hf
  go_wp2
  go_ret2
  exact ⟨⟨none, 0, rfl, StpR.nil _ _⟩, Hb1.out⟩
end Go.Proofs.YtbdciiiimdbmkaaGreat

namespace Go.Proofs.YtbdciiiimdbmkaaGreat
open Go.RowKit

set_option maxHeartbeats 2000000 in
set_option maxRecDepth 100000 in
theorem qrdec_main (l : List Nat) (n k : Nat) (most : Int) (w : World) (hl : l.length ≤ 50000) (hlt : ∀ x ∈ l, x < 256) (hn0 : 1 ≤ n) (hn : n ≤ 1000) (hm : (n : Int) ≤ most) (hm2 : most ≤ 9223372036854775807) (hk0 : 0 < k) (hkl : k ≤ l.length)
    (hf : Calls Tryz.prog 19 #[.string (strOf l)] w fun e w' => e = .returned (.tuple #[.int .u64 (n : Int), .int .i64 (k : Int)]) ∧ Below w.heap.size w w') :
    Calls Tryz.prog 8 #[.string (strOf l), .int .i64 most] w fun e w' => RdP w' e (match Bm.strsD 3 (l.drop k) n with
      | none => none
      | some p => match Bm.txtD ((l.drop k).drop p.2) with
        | none => none
        | some q => (Bm.stepsD p.1 n q.1).map fun m => (m, k + p.2 + q.2)) ∧ Below w.heap.size w w' := by
  obtain ⟨res, hres⟩ : ∃ res, res = (match Bm.strsD 3 (l.drop k) n with
      | none => none
      | some p => match Bm.txtD ((l.drop k).drop p.2) with
        | none => none
        | some q => (Bm.stepsD p.1 n q.1).map fun m => (m, k + p.2 + q.2)) := ⟨_, rfl⟩
  rw [← hres]
  obtain ⟨S3, hS3⟩ : ∃ S3, S3 = Bm.strsD 3 (l.drop k) n := ⟨_, rfl⟩
  rw [← hS3] at hres
  have HS3 := Lib.hid hS3
  have Hres := Lib.hid hres
  have Hf := Lib.hid hf
  have Hun := Lib.hid (fun m W => qrunstr_any (l.drop m) n W (by rw [List.length_drop]; omega) (drop_lt hlt m) hn0 (by omega))
  have Htx := Lib.hid (fun m W => qrtext_any (l.drop m) W (by rw [List.length_drop]; omega) (drop_lt hlt m))
  have Hcut := Lib.hid (fun m (h : m ≤ l.length) W => str_from l m h W)
  have Hlt := Lib.hid (fun m => drop_lt hlt m)
  have dk0 : ((k : Int) == 0) = false := by rw [beq_eq_false_iff_ne]; omega
  have dm0 : decide (most < 0) = false := decide_eq_false (by omega)
  have dwm : IntKind.u64.wrap most = most := by rw [IntKind.wrap_u64]; omega
  have dmn : decide (most < (n : Int)) = false := decide_eq_false (by omega)
  have d1k : decide ((1000 : Int) < (n : Int)) = false := decide_eq_false (by omega)
  have d1n : decide (1000 < n) = false := decide_eq_false (by omega)
  have dn0 : ((n : Int) == 0) = false := by rw [beq_eq_false_iff_ne]; omega
  obtain ⟨N, hN⟩ : ∃ N, N = l.length := ⟨_, rfl⟩
  rw [← hN] at hl hkl Hcut
  have HN := Lib.hid hN
  have Hdl : Hid (∀ m x, x ≤ (l.drop m).length → m ≤ N → m + x ≤ N) := Lib.hid (fun m x h h2 => by rw [List.length_drop] at h; omega)
  have Hn0 := Lib.hid hn0
  clear hlt hres hS3 hf hN hk0 hm hn0
  generalize strOf l = sl at *
  go_enter Tryz.func8, Tryz.ntmps8
  go_wp2_with fail
  refine Hf.out.mono ?_
  rintro e w1 ⟨rfl, hb1⟩
  obtain ⟨ba, hba⟩ : ∃ ba, w1.heap.size = ba := ⟨_, rfl⟩
  have hra := Row.new w1 46 (slsV n [] 3)
  have hbel := (Below.refl w1.heap.size w1).alloc (Nat.le_refl _) (.cells #[.slice none 0 0, .slice none 0 0, .slice none 0 0] 46)
  have e3 : w1.alloc (.cells (slsV n [] 3).toArray 46) = w1.alloc (.cells #[.slice none 0 0, .slice none 0 0, .slice none 0 0] 46) := rfl
  rw [e3, hba] at hra
  have Hra := Lib.hid hra
  have Hba := Lib.hid hba
  have HbA := Lib.hid (hb1.trans (hbel.mono hb1.size))
  have hws : w.heap.size ≤ ba := by rw [← hba]; exact hb1.size
  clear hra hbel e3 hba hb1 Hf
  go_wp2
  rw [Hba.out]
  generalize w1.alloc (.cells #[.slice none 0 0, .slice none 0 0, .slice none 0 0] 46) = wA at *
  clear Hba
  go_loopw [7, 10, 11, 12] (fun p i _ _ wr => ∃ (j at_ : Nat) (Ss : List (Option Addr × Nat × List Nat)), i = .int .i64 (j : Int) ∧ p = .int .i64 ((k + at_ : Nat) : Int) ∧ j ≤ 3 ∧ k + at_ ≤ N ∧ Hid (Ss.length = j) ∧ Hid (Row wr ba 46 (slsV n Ss (3 - j))) ∧ Hid (SlsR wr n Ss) ∧ Hid (Below w.heap.size w wr) ∧
    Hid (S3 = (Bm.strsD (3 - j) (l.drop (k + at_)) n).map fun q => (Ss.map (fun s => s.2.2) ++ q.1, at_ + q.2))) (fun _ i _ _ _ => 3 - (intOf i).toNat)
  case atStart =>
    refine ⟨0, 0, [], rfl, rfl, by omega, by omega, Lib.hid rfl, Hra, Lib.hid (fun s hs => by cases hs), HbA, Lib.hid ?_⟩
    rw [Nat.add_zero, Nat.sub_zero, HS3.out]
    cases Bm.strsD 3 (l.drop k) n <;> simp
  case round =>
    obtain ⟨j, at_, Ss, rfl, rfl, hj, hpN, hSl, hrow, hsl, hb, hstr⟩ := hrel
    clear Hra HbA
    obtain ⟨p, hp⟩ : ∃ p, p = k + at_ := ⟨_, rfl⟩
    rw [← hp] at hpN hstr ⊢
    have Hp := Lib.hid hp
    clear hp
    have hcut := Hcut.out p hpN
    by_cases hj3 : j < 3
    · have dj : (j : Int) < 3 := by omega
      have Hcall := Lib.hid (Hun.out p wr)
      have Hstr := Lib.hid hstr.out
      obtain ⟨d, hd⟩ : ∃ d, 3 - j = d + 1 := ⟨3 - j - 1, by omega⟩
      rw [hd, Bm.strsD] at Hstr
      have Hmem := Lib.hid (fun y kk h => Bm.str_mem (l.drop p) n (Hlt.out _) y kk h)
      have hrow' := hrow.out
      rw [hd] at hrow'
      have Hrow := Lib.hid hrow'
      have Hd := Lib.hid (show 3 - (j + 1) = d by omega)
      clear hstr hrow hrow' hd
      cases hs : Bm.strD (l.drop p) n with
      | none =>
        rw [hs] at Hstr Hcall
        dsimp only at Hstr
        have Hend : Hid (res = none) := Lib.hid (by rw [Hres.out, Hstr.out]; rfl)
        clear Hstr Hun Htx Hlt Hres Hmem hs hsl Hrow Hd Hdl Hp
        go_wp2_with fail
        refine Hcall.out.mono ?_
        rintro e w4 ⟨rfl, hb4⟩
        have Hb4 := Lib.hid (hb.out.trans (hb4.mono hb.out.size))
        clear hb4 Hcall hb
        go_wp2
        go_ret2
        rw [Hend.out]
        exact ⟨rfl, Hb4.out⟩
      | some t =>
        obtain ⟨y, kk⟩ := t
        rw [hs] at Hstr Hcall
        dsimp only at Hstr
        have Hm := Lib.hid (Hmem.out y kk hs)
        obtain ⟨hkk0, hkkl⟩ := Bm.str_le (l.drop p) n Hn0.out (y, kk) hs
        dsimp only at hkk0 hkkl
        have hpk := Hdl.out p kk hkkl hpN
        have dkk : ((kk : Int) == 0) = false := by rw [beq_eq_false_iff_ne]; omega
        rw [List.drop_drop] at Hstr
        clear Hmem hs hkk0 hkkl
        go_wp2_with fail
        refine Hcall.out.mono ?_
        rintro e w4 ⟨⟨A, c, rfl, hrd⟩, hb4⟩
        dsimp only at hrd ⊢
        have hrow4 := Hrow.out.below hb4
        have hsl4 := hsl.out.below hb4
        have hnA : Reads (w4.setCell ⟨ba, j, none⟩ (.slice A n c)) A (u8s y) := reads_notB hrow4 (slsV_notB n (d + 1) Ss) hrd (grown_one w4 ⟨ba, j, none⟩ (.slice A n c))
        have hsl5 := hsl4.notB hrow4 (slsV_notB n (d + 1) Ss) (grown_one w4 ⟨ba, j, none⟩ (.slice A n c))
        have hrow5 := hrow4.set_ j (.slice A n c)
        have hset : (slsV n Ss (d + 1)).set j (.slice A n c) = slsV n (Ss ++ [(A, c, y)]) d := by
          unfold slsV
          rw [List.set_append_right _ _ (by rw [List.length_map, hSl.out]; omega), List.length_map, hSl.out, Nat.sub_self, List.replicate_succ, List.set_cons_zero, List.map_append, List.append_assoc]
          rfl
        rw [hset] at hrow5
        have f0 := hrow4.free j
        have hsome : ∃ u, w4.cell? ⟨ba, j, none⟩ = some u := by
          rw [hrow4.cell]
          unfold slsV
          rw [List.getElem?_append_right (by rw [List.length_map, hSl.out]; omega), List.length_map, hSl.out, Nat.sub_self]
          exact ⟨_, rfl⟩
        obtain ⟨u0, hu0⟩ := hsome
        have hb5 : Below w.heap.size w (w4.setCell ⟨ba, j, none⟩ (.slice A n c)) := (hb.out.trans (hb4.mono hb.out.size)).setCell hws _
        have Hsl5 : Hid (SlsR (w4.setCell ⟨ba, j, none⟩ (.slice A n c)) n (Ss ++ [(A, c, y)])) := Lib.hid (fun s hs => by
          rcases List.mem_append.1 hs with hs | hs
          · exact hsl5 s hs
          · rw [List.mem_singleton.1 hs]; exact ⟨Hm.out, hnA⟩)
        have Hrow5 := Lib.hid hrow5
        have Hb5 := Lib.hid hb5
        have hln : y.length = n := Hm.out.1
        rw [hln]
        have hpi : (p : Int) + (kk : Int) = ((p + kk : Nat) : Int) := by omega
        have Hp2 : Hid (p + kk = k + (at_ + kk)) := Lib.hid (by rw [Hp.out, Nat.add_assoc])
        generalize p + kk = pk at *
        have hpkb : pk ≤ 50000 := by omega
        clear hrow4 hsl4 hnA hsl5 hrow5 hset hb5 hrd hb4 hsl hb Hrow Hm Hcall hln Hp
        go_wp2
        go_roundw
        case rel =>
          refine ⟨j + 1, at_ + kk, Ss ++ [(A, c, y)], by go_num, by rw [← Hp2.out], by omega, by rw [← Hp2.out]; exact hpk, Lib.hid (by rw [List.length_append, hSl.out]; rfl), by rw [Hd.out]; exact Hrow5, Hsl5, Hb5, Lib.hid ?_⟩
          rw [Hstr.out, Hd.out, ← Hp2.out]
          cases Bm.strsD d (l.drop pk) n <;> simp [Nat.add_assoc]
        case measure => simp [intOf]; omega
    · have hj3e : j = 3 := by omega
      subst hj3e
      obtain ⟨s0, s1, s2, hSs⟩ : ∃ s0 s1 s2, Ss = [s0, s1, s2] := by
        match Ss, hSl.out with
        | [x, y, z], _ => exact ⟨x, y, z, rfl⟩
      subst hSs
      have Hstr := Lib.hid hstr.out
      rw [Nat.sub_self, Bm.strsD, Option.map_some, List.append_nil, Nat.add_zero] at Hstr
      have hrow2 : Row wr ba 46 [.slice s0.1 n s0.2.1, .slice s1.1 n s1.2.1, .slice s2.1 n s2.2.1] := hrow.out
      have Hcall := Lib.hid (Htx.out p wr)
      have Hres2 := Lib.hid Hres.out
      rw [Hstr.out] at Hres2
      simp only [List.map_cons, List.map_nil] at Hres2
      rw [List.drop_drop, ← Hp.out] at Hres2
      have Hrow := Lib.hid hrow2
      clear hstr hrow hrow2 Hres Hstr hSl Htx Hun
      cases htx : Bm.txtD (l.drop p) with
      | none =>
        rw [htx] at Hcall Hres2
        dsimp only at Hres2
        clear Hrow hsl htx Hp
        go_wp2_with fail
        refine Hcall.out.mono ?_
        rintro e w4 ⟨rfl, hb4⟩
        have Hb4 := Lib.hid (hb.out.trans (hb4.mono hb.out.size))
        clear hb4 Hcall hb
        go_wp2
        go_ret2
        rw [Hres2.out]
        exact ⟨rfl, Hb4.out⟩
      | some t =>
        obtain ⟨bd, kt⟩ := t
        rw [htx] at Hcall Hres2
        unfold TxtP at Hcall
        dsimp only at Hres2 Hcall
        obtain ⟨hk0, hkt, hbl, hbm⟩ := Bm.txt_le _ _ htx
        dsimp only at hk0 hkt hbl hbm
        have hblt : ∀ x ∈ bd, x < 256 := fun x hx => Hlt.out p x (hbm x hx)
        have hpt := Hdl.out p kt hkt hpN
        have dkt : ((kt : Int) == 0) = false := by rw [beq_eq_false_iff_ne]; omega
        have Hcv := Lib.hid (fun W => conv_r W bd hblt)
        have Hrb := Lib.hid (fun W A c (h : Reads W A (u8s bd)) (hA : ∀ a, A = some a → 0 < bd.length → a.block < W.heap.size) => rbits_s A c bd W (by omega) hblt h hA)
        have hsteps : Bm.stepsD [s0.2.2, s1.2.2, s2.2.2] n bd = Bm.finD (Bm.stpsD (Bm.rowsD [s0.2.2, s1.2.2, s2.2.2] n) (Bm.valB bd) (8 * bd.length) (1, 2, 4)) := rfl
        rw [hsteps] at Hres2
        obtain ⟨L, hL⟩ : ∃ L, L = 8 * bd.length := ⟨_, rfl⟩
        have hV := Bm.valB_lt bd hblt
        rw [Bm.p256, ← hL] at hV
        have HV := Lib.hid hV
        clear hV
        rw [← hL] at Hres2 Hrb
        have hLb : L ≤ 32768 := by omega
        have hpi : (p : Int) + (kt : Int) = ((p + kt : Nat) : Int) := by omega
        clear hsteps htx hk0 hkt hbm hblt hL Hlt Hp Hdl
        clear hbl
        generalize p + kt = pt at *
        generalize Bm.valB bd = V at *
        generalize bd.length = nb at *
        generalize strOf bd = sb at *
        obtain ⟨A0, k0, c0⟩ := s0
        obtain ⟨A1, k1, c1⟩ := s1
        obtain ⟨A2, k2, c2⟩ := s2
        dsimp only at Hrow Hres2
        go_wp2_with fail
        refine Hcall.out.mono ?_
        rintro e w4 ⟨rfl, hb4⟩
        have Hb4 := Lib.hid (hb.out.trans (hb4.mono hb.out.size))
        have Hrow4 := Lib.hid (Hrow.out.below hb4)
        have Hsl4 := Lib.hid (hsl.out.below hb4)
        clear hb4 Hcall hb Hrow hsl
        obtain ⟨w5, g5, c5, hconv, hr5, hA5, hb5⟩ := Hcv.out w4
        have Hb5 := Lib.hid (Hb4.out.trans (hb5.mono Hb4.out.size))
        have Hrow5 := Lib.hid (Hrow4.out.below hb5)
        have Hsl5 := Lib.hid (Hsl4.out.below hb5)
        have Hr5 := Lib.hid hr5
        have HA5 := Lib.hid hA5
        clear hr5 hA5 hb5 Hb4 Hrow4 Hsl4 Hcv
        go_wp2_with fail
        refine (Hrb.out w5 _ _ Hr5.out HA5.out).mono ?_
        rintro e w6 ⟨A6, c6, rfl, hlc6, hcm6, hr6, hA6, hb6⟩
        have Hb6 := Lib.hid (Hb5.out.trans (hb6.mono Hb5.out.size))
        have Hrow6 := Lib.hid (Hrow5.out.below hb6)
        have Hsl6 := Lib.hid (Hsl5.out.below hb6)
        have Hr6 := Lib.hid hr6
        have HA6 := Lib.hid hA6
        clear hr6 hA6 hb6 Hb5 Hrow5 Hsl5 Hrb Hr5 HA5 hconv
        go_wp2
        obtain ⟨bc, hbc⟩ : ∃ bc, w6.heap.size = bc := ⟨_, rfl⟩
        obtain ⟨B, hB⟩ : ∃ B, bc + 1 = B := ⟨_, rfl⟩
        have hst : RdO w6 (w6.alloc (.cells #[.int .i64 1, .int .i64 2, .int .i64 4] 59)) bc B (1, 2, 4) (.slice none 0 0) [] := by
          have hr := Row.new w6 59 [.int .i64 1, .int .i64 2, .int .i64 4]
          rw [hbc] at hr
          exact ⟨(Below.refl bc w6).alloc (by omega) _, hr, World.ownsRow_nil _ _ _ _, by rw [World.size_alloc]; omega⟩
        have Hst := Lib.hid hst
        rw [hbc]
        have Hbc := Lib.hid hbc
        have hwbc : w.heap.size ≤ bc := by rw [← hbc]; exact Hb6.out.size
        rw [hbc] at HA6
        have Hup : Hid (∀ W, Below bc w6 W → Below w6.heap.size w6 W) := Lib.hid (fun W h => by rw [hbc]; exact h)
        generalize w6.alloc (.cells #[.int .i64 1, .int .i64 2, .int .i64 4] 59) = wB at *
        obtain ⟨i0, hi, hz0, hz1, hz2⟩ := info_parts info_seq
        have HA0 : Hid (c0.length = n ∧ ∀ x ∈ c0, x < 28) := Lib.hid (Hsl6.out (A0, k0, c0) (by simp)).1
        have HA1 : Hid (c1.length = n ∧ ∀ x ∈ c1, x < 28) := Lib.hid (Hsl6.out (A1, k1, c1) (by simp)).1
        have HA2 : Hid (c2.length = n ∧ ∀ x ∈ c2, x < 28) := Lib.hid (Hsl6.out (A2, k2, c2) (by simp)).1
        have HR0 : Hid (Reads w6 A0 (u8s c0) ∧ Reads w6 A1 (u8s c1) ∧ Reads w6 A2 (u8s c2)) := Lib.hid ⟨(Hsl6.out (A0, k0, c0) (by simp)).2, (Hsl6.out (A1, k1, c1) (by simp)).2, (Hsl6.out (A2, k2, c2) (by simp)).2⟩
        clear hst hbc Hsl6 hcut Hcut HN Hn0 HS3 hcm6 hws
        have HVn : Hid (V < 2 ^ L ∧ L ≤ 32768) := Lib.hid ⟨HV.out, hLb⟩
        clear HV
        go_loopw [15, 17, 18, 19, 20, 21, 22, 23] (fun bits u i _ _ _ _ _ wr => ∃ (kq m X cb : Nat) (Ab : Option Addr) (D : List Bm.Stp) (r : Int × Int × Int), i = .int .i64 (kq : Int) ∧ kq ≤ n ∧ m ≤ 32768 ∧ bits = .slice Ab m cb ∧ m ≤ cb ∧ Hid (D.length = kq) ∧ Hid (Bm.RecIn r) ∧ Hid (X < 2 ^ m) ∧
          Hid (Reads w6 Ab (i64s (Bm.bitsOf X m))) ∧ Hid (∀ a, Ab = some a → a.block < bc) ∧ Hid (RdO w6 wr bc B r u D) ∧
          Hid (res = (Bm.finD ((Bm.stpsD ((Bm.rowsD [c0, c1, c2] n).drop kq) X m r).map fun q => (D ++ q.1, q.2))).map fun m => (m, pt))) (fun _ _ i _ _ _ _ _ _ => n - (intOf i).toNat)
        case atStart =>
          refine ⟨0, L, V, c6, A6, [], (1, 2, 4), rfl, Nat.zero_le _, hLb, rfl, hlc6, Lib.hid rfl, Lib.hid ⟨by decide, by decide, by decide⟩, Lib.hid HVn.out.1, Hr6, HA6, Hst, Lib.hid ?_⟩
          rw [Hres2.out, List.drop_zero]
          cases Bm.stpsD (Bm.rowsD [c0, c1, c2] n) V L (1, 2, 4) <;> rfl
        case round =>
          obtain ⟨kq, m, X, cb, Ab, D, r, rfl, hkq, hm, rfl, hlcb, hD, hr, hX, hrb, hAb, hst, hres⟩ := hrel
          clear Hst Hres2 Hr6 HA6 hlc6 HVn hLb
          by_cases hkn : kq < n
          · have dk : decide ((kq : Int) < (n : Int)) = true := decide_eq_true (by omega)
            have Hrows : Hid ((Bm.rowsD [c0, c1, c2] n).drop kq = Bm.atD [c0, c1, c2] kq :: (Bm.rowsD [c0, c1, c2] n).drop (kq + 1)) := Lib.hid (Bm.rows_drop _ n kq hkn)
            have hst1 := hst.out.below ((Below.refl wr.heap.size wr).alloc (Nat.le_refl _) (.cells #[.int .i64 0, .int .i64 0, .int .i64 0] 59))
            have hrn := Row.new wr 59 (numV [])
            have e3 : wr.alloc (.cells (numV []).toArray 59) = wr.alloc (.cells #[.int .i64 0, .int .i64 0, .int .i64 0] 59) := rfl
            rw [e3] at hrn
            obtain ⟨bx, hbx⟩ : ∃ bx, wr.heap.size = bx := ⟨_, rfl⟩
            rw [hbx] at hrn
            have hBx : B ≤ bx := by rw [← hbx]; exact hst.out.low.2
            have Hub : Hid (∀ x, u17.ownBlock = some x → x ≠ bx) := Lib.hid (fun x e => by have := (hst.out.own.lt x e).2; omega)
            have Hst1 := Lib.hid hst1
            have Hrn := Lib.hid hrn
            have Hbx := Lib.hid hbx
            clear hst1 hrn e3 hbx hst
            go_wp2
            rw [Hbx.out]
            generalize wr.alloc (.cells #[.int .i64 0, .int .i64 0, .int .i64 0] 59) = wC at *
            clear Hbx
            rename World => wo
            go_loopw [15, 20, 21, 22] (fun bits i _ _ wr => ∃ (j m2 X2 cb2 : Nat) (Ab2 : Option Addr) (xs : List Nat), i = .int .i64 (j : Int) ∧ j ≤ 3 ∧ m2 ≤ 32768 ∧ bits = .slice Ab2 m2 cb2 ∧ m2 ≤ cb2 ∧ Hid (xs.length = j) ∧ Hid (∀ x ∈ xs, x ≤ 65535) ∧ Hid (X2 < 2 ^ m2) ∧
              Hid (Reads w6 Ab2 (i64s (Bm.bitsOf X2 m2))) ∧ Hid (∀ a, Ab2 = some a → a.block < bc) ∧ Hid (RdO w6 wr bc B r u17 D) ∧ Hid (Row wr bx 59 (numV xs)) ∧
              Hid (Bm.numsD (Bm.atD [c0, c1, c2] kq) X m = (Bm.numsD ((Bm.atD [c0, c1, c2] kq).drop j) X2 m2).map fun t => (xs ++ t.1, t.2))) (fun _ i _ _ _ => 3 - (intOf i).toNat)
            case atStart =>
              refine ⟨0, m, X, cb, Ab, [], rfl, by omega, hm, rfl, hlcb, Lib.hid rfl, Lib.hid (by simp), hX, hrb, hAb, Hst1, Hrn, Lib.hid ?_⟩
              rw [List.drop_zero]
              cases Bm.numsD (Bm.atD [c0, c1, c2] kq) X m <;> rfl
            case round =>
              obtain ⟨j, m2, X2, cb2, Ab2, xs, rfl, hj', hm2', rfl, hlcb2, hxs, hxle, hX2, hrb2, hAb2, hst, hrn, hnum⟩ := hrel
              clear Hst1 Hrn hrb hAb hX hlcb
              by_cases hj3' : j < 3
              · have key : ∃ (g off c kk : Nat), wr.cell? ⟨ba, j, none⟩ = some (.slice (some ⟨g, off, none⟩) n kk) ∧ wr.cell? ⟨g, off + kq, none⟩ = some (.int .u8 (c : Int)) ∧ c < 28 ∧ Hid ((Bm.atD [c0, c1, c2] kq).drop j = c :: (Bm.atD [c0, c1, c2] kq).drop (j + 1)) := by
                  have hbw := Hup.out wr hst.out.bel
                  obtain ⟨y0, y1, y2⟩ := row3 (Hrow6.out.below hbw)
                  obtain ⟨r0, r1, r2⟩ := HR0.out
                  have one : ∀ (A : Option Addr) (cs : List Nat), (cs.length = n ∧ ∀ x ∈ cs, x < 28) → Reads w6 A (u8s cs) → ∃ g off, A = some ⟨g, off, none⟩ ∧ ∃ c : Nat, wr.cell? ⟨g, off + kq, none⟩ = some (.int .u8 (c : Int)) ∧ c < 28 ∧ cs[kq]?.getD 0 = c := fun A cs h hr => by
                    have hkl : kq < cs.length := by omega
                    obtain ⟨g, off, e, hc⟩ := reads_u8 (reads_on hr hbw) (by intro e; rw [e] at hkl; simp at hkl)
                    exact ⟨g, off, e, cs[kq], hc kq hkl, h.2 _ (List.getElem_mem hkl), by rw [List.getElem?_eq_getElem hkl]; rfl⟩
                  rcases (by omega : j = 0 ∨ j = 1 ∨ j = 2) with rfl | rfl | rfl
                  · obtain ⟨g, off, e, c, h1, h2, h3⟩ := one A0 c0 HA0.out r0
                    exact ⟨g, off, c, k0, by rw [y0, e], h1, h2, Lib.hid (by simp only [Bm.atD, List.map_cons, List.map_nil, List.drop_succ_cons, List.drop_zero, h3])⟩
                  · obtain ⟨g, off, e, c, h1, h2, h3⟩ := one A1 c1 HA1.out r1
                    exact ⟨g, off, c, k1, by rw [y1, e], h1, h2, Lib.hid (by simp only [Bm.atD, List.map_cons, List.map_nil, List.drop_succ_cons, List.drop_zero, h3])⟩
                  · obtain ⟨g, off, e, c, h1, h2, h3⟩ := one A2 c2 HA2.out r2
                    exact ⟨g, off, c, k2, by rw [y2, e], h1, h2, Lib.hid (by simp only [Bm.atD, List.map_cons, List.map_nil, List.drop_succ_cons, List.drop_zero, h3])⟩
                obtain ⟨g, off, c, kk, hall, hcell, hc28, hdrop⟩ := key
                have dj : (j : Int) < 3 := by omega
                have Hnum := Lib.hid hnum.out
                rw [hdrop.out, Bm.numsD] at Hnum
                have hex := Bm.ex_le c hc28
                have Hext := Lib.hid (fun W => krextra_any c W (by omega))
                rw [Bm.extra_ex c hc28] at Hext
                obtain ⟨ex, hexe⟩ : ∃ ex, ex = Bm.exK c := ⟨_, rfl⟩
                have Hv := Lib.hid (⟨hexe, rfl⟩ : ex = Bm.exK c ∧ Bm.numK c X2 = Bm.numK c X2)
                rw [← hexe] at Hext Hnum hex
                have f0 := hrn.out.free j
                have hsome : ∃ u, wr.cell? ⟨bx, j, none⟩ = some u := by
                  rw [hrn.out.cell]
                  rcases (by omega : j = 0 ∨ j = 1 ∨ j = 2) with rfl | rfl | rfl <;> exact ⟨_, rfl⟩
                obtain ⟨u0, hu0⟩ := hsome
                clear hexe hnum hdrop
                by_cases hfit : ex ≤ m2
                · rw [if_pos hfit] at Hnum
                  have dfit : decide ((m2 : Int) < (ex : Int)) = false := decide_eq_false (by omega)
                  have dfit2 : decide (m2 < ex) = false := decide_eq_false (by omega)
                  have hcut := fun W => cut_from Ab2 m2 cb2 ex W hfit hlcb2
                  have hrb3 : Reads w6 (behindA Ab2 cb2 ex) (i64s (Bm.bitsOf (X2 / 2 ^ ex) (m2 - ex))) := by
                    have h := reads_behind (q := ex) hrb2.out (by rw [Bm.bitsOf_length]; exact hlcb2)
                    rw [Bm.bitsOf_drop] at h
                    exact h
                  have Hrb3 := Lib.hid hrb3
                  have HAb3 := Lib.hid (behind_block Ab2 cb2 ex bc hAb2.out)
                  have HX3 : Hid (X2 / 2 ^ ex < 2 ^ (m2 - ex)) := Lib.hid (by
                    rw [Nat.div_lt_iff_lt_mul (Nat.two_pow_pos _), ← Nat.pow_add, show m2 - ex + ex = m2 by omega]
                    exact hX2.out)
                  have hvle := Bm.numK_le c X2 hc28
                  have hrow2 := hrn.out.set_ j (.int .i64 (c : Int))
                  have hst2 := hst.out.far (p := ⟨bx, j, none⟩) hBx (by simpa using Hub.out) (.int .i64 (c : Int))
                  have hbw2 : Below bc w6 (wr.setCell ⟨bx, j, none⟩ (.int .i64 (c : Int))) := hst2.bel
                  have f2 := hrow2.free j
                  have c2' : (wr.setCell ⟨bx, j, none⟩ (.int .i64 (c : Int))).cell? ⟨bx, j, none⟩ = some (.int .i64 (c : Int)) := by
                    rw [hrow2.cell]
                    rcases (by omega : j = 0 ∨ j = 1 ∨ j = 2) with rfl | rfl | rfl <;> rfl
                  have Hrow2 := Lib.hid hrow2
                  have Hst2 := Lib.hid hst2
                  have hmx : m2 - ex ≤ cb2 - ex := by omega
                  have hmx2 : m2 - ex ≤ 32768 := by omega
                  generalize hm3 : m2 - ex = m3 at *
                  generalize hc3 : cb2 - ex = cb3 at *
                  generalize behindA Ab2 cb2 ex = Ab3 at *
                  obtain ⟨v, hv⟩ : ∃ v, v = Bm.numK c X2 := ⟨_, rfl⟩
                  rw [← hv] at Hnum hvle
                  have Hset : Hid (((numV xs).set j (.int .i64 (c : Int))).set j (.int .i64 (v : Int)) = numV (xs ++ [v])) := Lib.hid (by
                    rw [List.set_set, ← hxs.out, numV_snoc xs v (by rw [hxs.out]; exact hj3')])
                  by_cases h16 : c < 16
                  · have d16 : decide (16 ≤ c) = false := decide_eq_false (by omega)
                    have d16i : decide ((16 : Int) ≤ (c : Int)) = false := decide_eq_false (by omega)
                    have hvc : v = c := by rw [hv]; unfold Bm.numK; rw [if_pos h16]
                    have Hrow3 : Hid (Row (wr.setCell ⟨bx, j, none⟩ (.int .i64 (c : Int))) bx 59 (numV (xs ++ [v]))) := Lib.hid (by
                      rw [← Hset.out, List.set_set, hvc]; exact Hrow2.out)
                    clear hrow2 hst2 hbw2 f2 c2' hrb3 Hset Hrow2 hst hrn Hv hv hm3 hc3 hfit hlcb2 hrb2 hAb2 hX2
                    go_wp2_with fail
                    refine (Hext.out _).mono ?_
                    rintro e w7 ⟨rfl, rfl⟩
                    go_wp2
                    go_roundw
                    case rel =>
                      refine ⟨j + 1, m3, X2 / 2 ^ ex, cb3, Ab3, xs ++ [v], by go_num, by omega, hmx2, rfl, hmx, Lib.hid (by rw [List.length_append, hxs.out]; rfl), Lib.hid (fun x hx => ?_), HX3, Hrb3, HAb3, Hst2, Hrow3, Lib.hid ?_⟩
                      · rcases List.mem_append.1 hx with hx | hx
                        · exact hxle.out x hx
                        · rw [List.mem_singleton.1 hx]; exact hvle
                      · rw [Hnum.out]
                        cases Bm.numsD ((Bm.atD [c0, c1, c2] kq).drop (j + 1)) (X2 / 2 ^ ex) m3 <;> simp
                    case measure => simp [intOf]; omega
                  · have d16 : decide (16 ≤ c) = true := decide_eq_true (by omega)
                    have d16i : decide ((16 : Int) ≤ (c : Int)) = true := decide_eq_true (by omega)
                    have hexc : ex = c - 12 := by
                      rw [Hv.out.1]; unfold Bm.exK; rw [if_neg h16]
                    obtain ⟨P, hP⟩ : ∃ P, P = 2 ^ ex := ⟨_, rfl⟩
                    obtain ⟨R, hR⟩ : ∃ R, R = X2 % 2 ^ ex := ⟨_, rfl⟩
                    have hvc : v = P + R := by rw [hv, hP, hR, hexc]; unfold Bm.numK; rw [if_neg h16]
                    have hvi : (P : Int) + (R : Int) = (v : Int) := by omega
                    have hsz := fun W => hsize_any (ex : Int) W (by omega)
                    rw [Int.toNat_natCast, ← hP] at hsz
                    have Hsz := Lib.hid hsz
                    obtain ⟨gb, ob, hAe, hcb⟩ := hrb2.out (by intro e; have := congrArg List.length e; rw [i64s_length, Bm.bitsOf_length, List.length_nil] at this; omega)
                    have hgb := hAb2.out _ hAe
                    dsimp only at hgb
                    have hgw : gb < w6.heap.size := by rw [Hbc.out]; exact hgb
                    have hnm := fun W (h : Below bc w6 W) => rnum_bits gb ob ex cb2 X2 W (by omega) (by omega) (fun t ht => by
                      have h1 := hcb t (by rw [i64s_length, Bm.bitsOf_length]; omega)
                      rw [i64s_get? _ t (by rw [Bm.bitsOf_length]; omega), Bm.bitsOf_get] at h1
                      exact (h.cell (p := ⟨gb, ob + t, none⟩) hgb).trans h1)
                    rw [← hR] at hnm
                    have Hnm := Lib.hid hnm
                    subst hAe
                    have hto := fun W => cut_to (some ⟨gb, ob, none⟩) m2 cb2 ex W hfit hlcb2
                    have hR2 : R ≤ 65535 := by omega
                    have hP2 : P ≤ 65535 := by omega
                    have hRw : IntKind.i64.wrap (R : Int) = (R : Int) := IntWalk.i64_in _ (by omega)
                    clear hrow2 hst2 hrb3 hst hrn Hv hv hm3 hc3 hfit hrb2 hAb2 hX2 hvc hP hR hsz hnm hcb hexc hgb hgw
                    clear hbw2 f2
                    go_upto_region 35 with (go_at_call 23; refine (Hext.out _).mono ?_; rintro e w7 ⟨rfl, rfl⟩)
                    generalize wr.setCell ⟨bx, j, none⟩ (.int .i64 (c : Int)) = w2 at *
                    have HS0 := Lib.hid (Hst2.out.below (Below.refl _ _).drew)
                    have HR0' := Lib.hid (Hrow2.out.below (Below.refl _ _).drew)
                    have f2 := HR0'.out.free j
                    have hbw2 := HS0.out.bel
                    refine wp_region_held_drew (S := (fun W : World => Below bc w6 W)) (by kernel_rfl) (by exact hbw2) (fun hHeld => ?_)
                    refine wpAnyH_take (i := 0) (oi := { dst := some 110, op := Go.Op.move (Go.Operand.tmp 20), type := 3, pos := "ref.go:142", after := #[], guard := none }) (v := ?_) rfl (by kernel_rfl) (by kernel_rfl) (by kernel_rfl) (fun _ _ _ h => h) (Or.inl ⟨by rfl, ?_⟩) (by assumption) ?_
                    rotate_left
                    · (intro w hSw; (try dsimp only at hSw); go_simp; (try with_reducible rfl))
                    try simp only [Act.put, List.setIfInBounds_toArray, List.set_cons_zero, List.set_cons_succ]
                    refine wpAnyH_take (i := 1) (oi := { dst := some 111, op := Go.Op.move (Go.Operand.tmp 22), type := 3, pos := "ref.go:142", after := #[], guard := none }) (v := ?_) rfl (by kernel_rfl) (by kernel_rfl) (by kernel_rfl) (fun _ _ _ h => h) (Or.inl ⟨by rfl, ?_⟩) (by assumption) ?_
                    rotate_left
                    · (intro w hSw; (try dsimp only at hSw); go_simp; (try with_reducible rfl))
                    try simp only [Act.put, List.setIfInBounds_toArray, List.set_cons_zero, List.set_cons_succ]
                    refine wpAnyH_take (i := 3) (oi := { dst := some 113, op := Go.Op.move (Go.Operand.tmp 15), type := 57, pos := "ref.go:142", after := #[], guard := none }) (v := ?_) rfl (by kernel_rfl) (by kernel_rfl) (by kernel_rfl) (fun _ _ _ h => h) (Or.inl ⟨by rfl, ?_⟩) (by assumption) ?_
                    rotate_left
                    · (intro w hSw; (try dsimp only at hSw); go_simp; (try with_reducible rfl))
                    try simp only [Act.put, List.setIfInBounds_toArray, List.set_cons_zero, List.set_cons_succ]
                    refine wpAnyH_take (i := 4) (oi := { dst := some 114, op := Go.Op.move (Go.Operand.tmp 22), type := 3, pos := "ref.go:142", after := #[], guard := none }) (v := ?_) rfl (by kernel_rfl) (by kernel_rfl) (by kernel_rfl) (fun _ _ _ h => h) (Or.inl ⟨by rfl, ?_⟩) (by assumption) ?_
                    rotate_left
                    · (intro w hSw; (try dsimp only at hSw); go_simp; (try with_reducible rfl))
                    try simp only [Act.put, List.setIfInBounds_toArray, List.set_cons_zero, List.set_cons_succ]
                    refine wpAnyH_take (i := 5) (oi := { dst := some 115, op := Go.Op.slice 57 (Go.Operand.tmp 113) none (some (Go.Operand.tmp 114)) none, type := 57, pos := "ref.go:142", after := #[{ on := 3, ground := Go.Ground.data }, { on := 4, ground := Go.Ground.data }], guard := none }) (v := ?_) rfl (by kernel_rfl) (by kernel_rfl) (by kernel_rfl) (fun _ _ _ h => h) (Or.inl ⟨by rfl, ?_⟩) (by assumption) ?_
                    rotate_left
                    · (intro w hSw; (try dsimp only at hSw); go_simp; (try with_reducible rfl))
                    try simp only [Act.put, List.setIfInBounds_toArray, List.set_cons_zero, List.set_cons_succ]
                    refine wpAnyH_ready (rs := [2]) (by kernel_rfl) (by simp) ?_
                    refine AllReadyH.cons (o := { dst := some 112, op := Go.Op.call { callee := Go.Callee.value (Go.Operand.func 24), args := #[Go.Operand.tmp 111], argTypes := #[3] }, type := 3, pos := "ref.go:142", after := #[{ on := 1, ground := Go.Ground.data }], guard := none }) rfl (fun K hK => ?_) AllReadyH.nil
                    go_simp
                    (go_at_call 24; refine (Hsz.out _).mono ?_; rintro e8 w8 ⟨rfl, rfl⟩)
                    go_simp
                    refine hK.out _ _ (by exact hbw2) (fun hHeld => ?_)
                    clear hK K
                    try simp only [Act.put, List.setIfInBounds_toArray, List.set_cons_zero, List.set_cons_succ]
                    refine wpAnyH_ready (rs := [6]) (by kernel_rfl) (by simp) ?_
                    refine AllReadyH.cons (o := { dst := some 116, op := Go.Op.call { callee := Go.Callee.value (Go.Operand.func 25), args := #[Go.Operand.tmp 115], argTypes := #[57] }, type := 61, pos := "ref.go:142", after := #[{ on := 5, ground := Go.Ground.data }, { on := 2, ground := Go.Ground.chain }], guard := none }) rfl (fun K hK => ?_) AllReadyH.nil
                    go_simp
                    (go_at_call 25; refine (Hnm.out _ hbw2).mono ?_; rintro e9 w9 ⟨rfl, rfl⟩)
                    go_simp
                    refine hK.out _ _ (by exact hbw2) (fun hHeld => ?_)
                    clear hK K
                    try simp only [Act.put, List.setIfInBounds_toArray, List.set_cons_zero, List.set_cons_succ]
                    refine wpAnyH_take (i := 7) (oi := { dst := some 117, op := Go.Op.convert 61 3 (Go.Operand.tmp 116), type := 3, pos := "ref.go:142", after := #[{ on := 6, ground := Go.Ground.data }], guard := none }) (v := ?_) rfl (by kernel_rfl) (by kernel_rfl) (by kernel_rfl) (fun _ _ _ h => h) (Or.inl ⟨by rfl, ?_⟩) (by assumption) ?_
                    rotate_left
                    · (intro w hSw; (try dsimp only at hSw); go_simp; (try with_reducible rfl))
                    try simp only [Act.put, List.setIfInBounds_toArray, List.set_cons_zero, List.set_cons_succ]
                    refine wpAnyH_take (i := 8) (oi := { dst := some 118, op := Go.Op.binOp Go.BinOp.add 3 (Go.Operand.tmp 112) (Go.Operand.tmp 117) 3, type := 3, pos := "ref.go:142", after := #[{ on := 2, ground := Go.Ground.data }, { on := 7, ground := Go.Ground.data }], guard := none }) (v := ?_) rfl (by kernel_rfl) (by kernel_rfl) (by kernel_rfl) (fun _ _ _ h => h) (Or.inl ⟨by rfl, ?_⟩) (by assumption) ?_
                    rotate_left
                    · (intro w hSw; (try dsimp only at hSw); go_simp; (try with_reducible rfl))
                    try simp only [Act.put, List.setIfInBounds_toArray, List.set_cons_zero, List.set_cons_succ]
                    refine wpAnyH_take (i := 9) (oi := { dst := some 119, op := Go.Op.indexAddr 59 (Go.Operand.tmp 19) (Go.Operand.tmp 110), type := 0, pos := "ref.go:142", after := #[{ on := 0, ground := Go.Ground.data }, { on := 0, ground := Go.Ground.phase }, { on := 1, ground := Go.Ground.phase }, { on := 2, ground := Go.Ground.phase }, { on := 3, ground := Go.Ground.phase }, { on := 4, ground := Go.Ground.phase }, { on := 5, ground := Go.Ground.phase }, { on := 6, ground := Go.Ground.phase }, { on := 7, ground := Go.Ground.phase }, { on := 8, ground := Go.Ground.phase }], guard := none }) (v := ?_) rfl (by kernel_rfl) (by kernel_rfl) (by kernel_rfl) (fun _ _ _ h => h) (Or.inl ⟨by rfl, ?_⟩) (by assumption) ?_
                    rotate_left
                    · (intro w hSw; (try dsimp only at hSw); go_simp; (try with_reducible rfl))
                    try simp only [Act.put, List.setIfInBounds_toArray, List.set_cons_zero, List.set_cons_succ]
                    refine wpAnyH_ready (rs := [10]) (by kernel_rfl) (by simp) ?_
                    refine AllReadyH.cons (o := { dst := none, op := Go.Op.store 3 (Go.Operand.tmp 119) (Go.Operand.tmp 118), type := 0, pos := "ref.go:142", after := #[{ on := 9, ground := Go.Ground.data }, { on := 8, ground := Go.Ground.data }, { on := 6, ground := Go.Ground.chain }, { on := 0, ground := Go.Ground.phase }, { on := 1, ground := Go.Ground.phase }, { on := 2, ground := Go.Ground.phase }, { on := 3, ground := Go.Ground.phase }, { on := 4, ground := Go.Ground.phase }, { on := 5, ground := Go.Ground.phase }, { on := 6, ground := Go.Ground.phase }, { on := 7, ground := Go.Ground.phase }, { on := 8, ground := Go.Ground.phase }], guard := none }) rfl (fun K hK => ?_) AllReadyH.nil
                    go_simp
                    refine hK.out _ _ (by exact hbw2.setCell (by show bc ≤ bx; omega) _) (fun hHeld => ?_)
                    clear hK K
                    try simp only [Act.put, List.setIfInBounds_toArray, List.set_cons_zero, List.set_cons_succ]
                    refine wpAnyH_done (by kernel_rfl) ?_ _
                    have Hst3 := Lib.hid (HS0.out.far (p := ⟨bx, j, none⟩) hBx (by simpa using Hub.out) (.int .i64 (v : Int)))
                    have hrow3 := HR0'.out.set_ j (.int .i64 (v : Int))
                    rw [Hset.out] at hrow3
                    have Hrow3 := Lib.hid hrow3
                    clear hrow3 HS0 HR0' hbw2 f2 c2' hto
                    go_wp2
                    go_roundw
                    case rel =>
                      refine ⟨j + 1, m3, X2 / 2 ^ ex, cb3, Ab3, xs ++ [v], by go_num, by omega, hmx2, rfl, hmx, Lib.hid (by rw [List.length_append, hxs.out]; rfl), Lib.hid (fun x hx => ?_), HX3, Hrb3, HAb3, Hst3, Hrow3, Lib.hid ?_⟩
                      · rcases List.mem_append.1 hx with hx | hx
                        · exact hxle.out x hx
                        · rw [List.mem_singleton.1 hx]; exact hvle
                      · rw [Hnum.out]
                        cases Bm.numsD ((Bm.atD [c0, c1, c2] kq).drop (j + 1)) (X2 / 2 ^ ex) m3 <;> simp
                    case measure => simp [intOf]; omega
                · rw [if_neg hfit] at Hnum
                  have Hend : Hid (res = none) := Lib.hid (by rw [hres.out, Hrows.out, Bm.stpsD, Hnum.out]; rfl)
                  have dfit : decide ((m2 : Int) < (ex : Int)) = true := decide_eq_true (by omega)
                  have dfit2 : decide (m2 < ex) = true := decide_eq_true (by omega)
                  have Hb2 := Lib.hid (Hb6.out.trans (hst.out.bel.mono hwbc))
                  clear Hnum hres Hrows hfit hst hrn Hv
                  go_wp2_with fail
                  refine (Hext.out _).mono ?_
                  rintro e w7 ⟨rfl, rfl⟩
                  go_wp2
                  go_ret2
                  rw [Hend.out]
                  exact ⟨rfl, Hb2.out⟩
              · have hje : j = 3 := by omega
                subst hje
                have Hnum := Lib.hid hnum.out
                rw [show (Bm.atD [c0, c1, c2] kq).drop 3 = [] from rfl, Bm.numsD, Option.map_some, List.append_nil] at Hnum
                obtain ⟨lx, mx, ox, hxs3⟩ : ∃ lx mx ox, xs = [lx, mx, ox] := by
                  match xs, hxs.out with
                  | [x, y, z], _ => exact ⟨x, y, z, rfl⟩
                subst hxs3
                have hlx : lx ≤ 65535 := hxle.out lx (by simp)
                have hmx : mx ≤ 65535 := hxle.out mx (by simp)
                have hox : ox ≤ 65535 := hxle.out ox (by simp)
                have hrn2 : Row wr bx 59 [.int .i64 (lx : Int), .int .i64 (mx : Int), .int .i64 (ox : Int)] := hrn.out
                obtain ⟨x0, x1, x2⟩ := row3 hrn2
                obtain ⟨ra, rb, rc⟩ := r
                obtain ⟨y0, y1, y2⟩ := row3 hst.out.rec_
                obtain ⟨ha, hb', hc⟩ := hr.out
                dsimp only at y0 y1 y2 ha hb' hc
                have Hres3 := Lib.hid hres.out
                rw [Hrows.out, Bm.stpsD, Hnum.out] at Hres3
                simp only [List.getElem?_cons_zero, List.getElem?_cons_succ, Option.getD_some] at Hres3
                have Hcall := Lib.hid (fun W => qroff_any ra rb rc ox W hox ha hb' hc)
                have Hst2 := Lib.hid hst.out
                have Hrn2 := Lib.hid hrn2
                clear hres Hnum hnum hrn hrn2 hst hxle hxs Hrows
                cases hoff : Bm.offI ra rb rc (ox : Int) with
                | none =>
                  rw [hoff] at Hres3 Hcall
                  rw [Option.getD_none] at Hcall
                  have Hend : Hid (res = none) := Lib.hid Hres3.out
                  have Hb2 := Lib.hid (Hb6.out.trans (Hst2.out.bel.mono hwbc))
                  clear hoff Hres3
                  go_wp2_with fail
                  refine (Hcall.out _).mono ?_
                  rintro e w7 ⟨rfl, hb7⟩
                  have hsz7 : w.heap.size ≤ wr.heap.size := Hb2.out.size
                  have Hb7 := Lib.hid (Hb2.out.trans (hb7.mono hsz7))
                  clear hb7 Hb2 Hcall Hst2 Hrn2
                  go_wp2
                  go_ret2
                  rw [Hend.out]
                  exact ⟨rfl, Hb7.out⟩
                | some x =>
                  rw [hoff] at Hres3 Hcall
                  rw [Option.getD_some] at Hcall
                  dsimp only at Hres3
                  have hx := Bm.offI_in _ _ _ _ _ hoff
                  have Hbeh := Lib.hid (fun W => krbeh_any ra rb rc x W)
                  have Hrec2 := Lib.hid (Bm.rec_beh (ra, rb, rc) x hr.out hx)
                  dsimp only at Hrec2
                  obtain ⟨⟨ea, eb, ec⟩, hr2⟩ : ∃ r2, r2 = Bm.behI ra rb rc x := ⟨_, rfl⟩
                  rw [← hr2] at Hbeh Hrec2 Hres3
                  dsimp only at Hbeh
                  clear hoff hr2 ha hb' hc hr
                  obtain ⟨x', rfl⟩ : ∃ x' : Nat, x = (x' : Int) := ⟨x.toNat, by omega⟩
                  rw [Int.toNat_natCast] at Hres3
                  have dx0 : ((x' : Int) == 0) = false := by rw [beq_eq_false_iff_ne]; omega
                  have hm3i : (mx : Int) + 3 = ((mx + 3 : Nat) : Int) := by omega
                  go_wp2_with fail
                  refine (Hcall.out _).mono ?_
                  rintro e w7 ⟨rfl, hb7⟩
                  have Hst7 := Lib.hid (Hst2.out.below hb7)
                  have Hrn7 := Lib.hid (Hrn2.out.below hb7)
                  obtain ⟨z0, z1, z2⟩ := row3 Hst7.out.rec_
                  dsimp only at z0 z1 z2
                  clear hb7 Hcall Hst2 Hrn2 x0 x1 x2 y0 y1 y2
                  go_wp2_with fail
                  refine (Hbeh.out _).mono ?_
                  rintro e w8 ⟨rfl, hb8⟩
                  have Hst8 := Lib.hid (Hst7.out.below hb8)
                  have Hrn8 := Lib.hid (Hrn7.out.below hb8)
                  clear hb8 Hbeh Hst7 Hrn7 z0 z1 z2
                  obtain ⟨z0, z1, z2⟩ := row3 Hst8.out.rec_
                  have g0 := Hst8.out.rec_.free 0
                  have g1 := Hst8.out.rec_.free 1
                  have g2 := Hst8.out.rec_.free 2
                  have nbx : bx ≠ bc := by omega
                  have Hst9 := Lib.hid (Hst8.out.turn ea eb ec)
                  have hrn9 : Row (((w8.setCell ⟨bc, 0, none⟩ (.int .i64 ea)).setCell ⟨bc, 1, none⟩ (.int .i64 eb)).setCell ⟨bc, 2, none⟩ (.int .i64 ec)) bx 59 [.int .i64 (lx : Int), .int .i64 (mx : Int), .int .i64 (ox : Int)] := ((Hrn8.out.far (p := ⟨bc, 0, none⟩) nbx _).far (p := ⟨bc, 1, none⟩) nbx _).far (p := ⟨bc, 2, none⟩) nbx _
                  have Hrn9 := Lib.hid hrn9
                  clear hrn9 Hst8 Hrn8
                  go_upto_region 41 with fail
                  generalize ((w8.setCell ⟨bc, 0, none⟩ (.int .i64 ea)).setCell ⟨bc, 1, none⟩ (.int .i64 eb)).setCell ⟨bc, 2, none⟩ (.int .i64 ec) = wD at *
                  clear z0 z1 z2 g0 g1 g2
                  obtain ⟨x0, x1, x2⟩ := row3 Hrn9.out
                  obtain ⟨mx3, hmx3⟩ : ∃ mx3, mx3 = mx + 3 := ⟨_, rfl⟩
                  rw [← hmx3] at hm3i Hres3
                  have hmb : mx3 ≤ 65538 := by omega
                  have hown := Hst9.out.own
                  rw [hD.out] at hown
                  have Hown := Lib.hid hown
                  clear hmx3 hown Hrn9
                  go_wp2_with (at_builtin; refine wpList_append_own _ rfl _ _ 22 rfl B 38 i0 (.agg #[.int .i64 0, .int .i64 0, .int .i64 0]) 3 24 Tryz.underlying22 hi hz0 hz1 hz2 rfl (by decide) _ _ _ rfl (Hown.out.alloc _) ⟨wD.heap.size, 0, none⟩ 1 1 [.int .i64 (lx : Int), .int .i64 (mx3 : Int), .int .i64 (x' : Int)] rfl rfl ?d1 ?d2 ?d3 ?d4 ?d5 ?_)
                  case d1 =>
                    intro j u hj
                    match j, hj with
                    | 0, hj => simp at hj; subst hj; simp [Addr.add]
                    | 1, hj => simp at hj; subst hj; simp [Addr.add]
                    | 2, hj => simp at hj; subst hj; simp [Addr.add]
                  case d2 =>
                    intro u hu
                    simp at hu
                    rcases hu with rfl | rfl | rfl <;> rfl
                  case d3 => unfold maxLen; omega
                  case d4 => omega
                  case d5 => have := Hst9.out.low; simp; omega
                  intro u' w9 hown9 hgr9 _
                  have hs2 : sqs D ++ [.int .i64 (lx : Int), .int .i64 (mx3 : Int), .int .i64 (x' : Int)] = sqs (D ++ [(lx, mx3, x')]) := by rw [sqs_append]; rfl
                  rw [hs2] at hown9
                  have hst10 : RdO w6 w9 bc B (ea, eb, ec) u' (D ++ [(lx, mx3, x')]) := by
                    have hl := Hst9.out.low
                    have hgs := hgr9.size
                    rw [World.size_alloc] at hgs
                    refine ⟨(Hst9.out.bel.alloc (by omega) _).grown hgr9 (by rw [World.size_alloc]; omega) (fun x e => by have := (Hown.out.lt x e).1; omega), ?_, by rw [List.length_append, hD.out]; exact hown9, by omega⟩
                    have hra := Hst9.out.rec_.alloc (.cells #[.int .i64 (lx : Int), .int .i64 (mx3 : Int), .int .i64 (x' : Int)] 38)
                    exact hra.keep (hgr9.block bc hra.lt (fun e => by have := (Hown.out.lt bc e.symm).1; omega))
                  have Hst10 := Lib.hid hst10
                  have Hres4 : Hid (res = (Bm.finD ((Bm.stpsD ((Bm.rowsD [c0, c1, c2] n).drop (kq + 1)) X2 m2 (ea, eb, ec)).map fun q => ((D ++ [(lx, mx3, x')]) ++ q.1, q.2))).map fun m => (m, pt)) := Lib.hid (by
                    rw [Hres3.out]
                    cases Bm.stpsD ((Bm.rowsD [c0, c1, c2] n).drop (kq + 1)) X2 m2 (ea, eb, ec) <;> simp)
                  clear hs2 hown9 hst10 hgr9 Hown Hst9 Hres3 x0 x1 x2
                  go_wp2
                  go_roundw
                  case rel => exact ⟨kq + 1, m2, X2, cb2, Ab2, D ++ [(lx, mx3, x')], (ea, eb, ec), by go_num, by omega, hm2', rfl, hlcb2, Lib.hid (by rw [List.length_append, hD.out]; rfl), Hrec2, hX2, hrb2, hAb2, Hst10, Hres4⟩
                  case measure => simp [intOf]; omega
          · have hkn' : kq = n := by omega
            subst hkn'
            have dk : decide ((kq : Int) < (kq : Int)) = false := decide_eq_false (by omega)
            have Hr2 := Lib.hid hres.out
            rw [show (Bm.rowsD [c0, c1, c2] kq).drop kq = [] from List.drop_of_length_le (by simp [Bm.rowsD]), Bm.stpsD, Option.map_some, List.append_nil] at Hr2
            unfold Bm.finD at Hr2
            dsimp only at Hr2
            have hcall := qrnoughts_any Ab cb (Bm.bitsOf X m) wr (by rw [Bm.bitsOf_length]; omega) (reads_on hrb.out (Hup.out wr hst.out.bel))
            have hdec : decide ((Bm.bitsOf X m).length < 8 ∧ ∀ x ∈ Bm.bitsOf X m, x = 0) = decide (m < 8 ∧ X = 0) := by
              rw [Bm.bitsOf_length]
              exact decide_eq_decide.2 ⟨fun h => ⟨h.1, (Bm.bitsOf_noughts X m hX.out).1 h.2⟩, fun h => ⟨h.1, (Bm.bitsOf_noughts X m hX.out).2 h.2⟩⟩
            rw [hdec, Bm.bitsOf_length] at hcall
            have Hcall := Lib.hid hcall
            obtain ⟨Ao, co, huo, hro, _⟩ := stp_own hst.out.own
            rw [hD.out] at huo
            rw [huo]
            have Hro := Lib.hid hro
            have Hb2 := Lib.hid (Hb6.out.trans (hst.out.bel.mono hwbc))
            clear hcall hdec hres hst hro huo hrb hAb hX
            by_cases hend : m < 8 ∧ X = 0
            · rw [if_pos hend] at Hr2
              rw [decide_eq_true hend] at Hcall
              clear hend
              go_wp2_with fail
              refine Hcall.out.mono ?_
              rintro e w3 ⟨rfl, rfl⟩
              clear Hcall
              go_wp2
              go_ret2
              rw [Hr2.out, Option.map_some]
              refine ⟨?_, Hb2.out⟩
              unfold RdP
              dsimp only
              rw [hD.out]
              exact ⟨Ao, co, rfl, Hro.out⟩
            · rw [if_neg hend] at Hr2
              rw [decide_eq_false hend] at Hcall
              clear hend
              go_wp2_with fail
              refine Hcall.out.mono ?_
              rintro e w3 ⟨rfl, rfl⟩
              clear Hcall
              go_wp2
              go_ret2
              rw [Hr2.out]
              exact ⟨rfl, Hb2.out⟩
theorem qrdec_any (l : List Nat) (most : Int) (w : World) (hl : l.length ≤ 50000) (hlt : ∀ x ∈ l, x < 256) (hm : Bm.IntOk most) :
    Calls Tryz.prog 8 #[.string (strOf l), .int .i64 most] w fun e w' => RdP w' e (Bm.secD l most) ∧ Below w.heap.size w w' := by
  have hf := ffirst_any l w (by omega) hlt
  have hv : (Bm.firstG l).1 < 18446744073709551616 := by
    rcases Nat.eq_zero_or_pos (Bm.firstG l).2 with h | h
    · have := Bm.firstG_none l (Bm.firstG l).1 (by rw [← h])
      omega
    · exact Nat.lt_of_lt_of_le (Bm.firstG_some l (Bm.firstG l).1 (Bm.firstG l).2 h rfl).1 (by decide)
  have hk : (Bm.firstG l).2 ≤ l.length := by
    rcases Nat.eq_zero_or_pos (Bm.firstG l).2 with h | h
    · omega
    · exact (Bm.firstG_some l _ _ h rfl).2.2
  unfold Bm.secD
  generalize (Bm.firstG l).1 = v at *
  generalize (Bm.firstG l).2 = k at *
  by_cases h : 0 < k ∧ (v : Int) ≤ most ∧ v ≤ 1000
  · rw [if_pos h]
    by_cases h0 : v = 0
    · subst h0
      rw [if_pos rfl]
      exact qrdec_zero _ k most w h.1 (by omega) ⟨by omega, hm.2⟩ hf
    · rw [if_neg h0]
      exact qrdec_main l v k most w hl hlt (by omega) h.2.2 h.2.1 hm.2 h.1 hk hf
  · rw [if_neg h]
    exact qrdec_no _ v k most w hv (by omega) hm h hf
end Go.Proofs.YtbdciiiimdbmkaaGreat
