/-
  The program's layer 10 (litcode), by its walk: symbol, Decode. Conditions: as each theorem's premises say.
-/
import Derived.Test.YtgcfdjgfnagmjaaGau
import Derived.Test.YtgcfdjgfnagmjaaGai
import Derived.Test.YtgcfdjgfnagmjaaGav
import Derived.Test.YtgcfdjgfnagmjaaGan
namespace Go.Proofs.Ytgcfdjgfnagmjaa
open Go.RowKit
theorem hgrown_trans10 {w w1 w2 : World} {row : Option Nat} (h : w.grownBy w1 row) (h2 : w1.grownBy w2 row) : w.grownBy w2 row :=
  ⟨h2.os.trans h.os, h2.tape.trans h.tape, h2.output.trans h.output, Nat.le_trans h.size h2.size, fun i hi hne => (h2.block i (Nat.lt_of_lt_of_le hi h.size) hne).trans (h.block i hi hne)⟩
namespace Bm
theorem decS_snoc (ls : List Nat) : ∀ (i : Nat) (l : List Nat), decS ls (i + 1) l = (decS ls i l).bind fun t => (metS ls t.2).map fun k => (t.1 ++ [k], t.2.drop (ls[k]?.getD 0))
  | 0, l => by
    rw [decS, decS, Option.bind_some]
    cases h : metS ls l with
    | none => rfl
    | some k => rw [Option.bind_some, decS, Option.map_some]; rfl
  | i + 1, l => by
    rw [decS]
    conv => rhs; rw [decS]
    cases h : metS ls l with
    | none => rfl
    | some k =>
      rw [Option.bind_some, Option.bind_some, decS_snoc ls i]
      cases h2 : decS ls i (l.drop (ls[k]?.getD 0)) with
      | none => rfl
      | some t =>
        rw [Option.bind_some, Option.map_some, Option.bind_some]
        cases h3 : metS ls t.2 with
        | none => simp
        | some k2 => simp
theorem decS_none (ls l : List Nat) (i : Nat) (h : decS ls i l = none) : ∀ m, decS ls (i + m) l = none
  | 0 => h
  | m + 1 => by rw [← Nat.add_assoc, decS_snoc, decS_none ls l i h m]; rfl
theorem drop_cons (l : List Nat) (p : Nat) (h : p < l.length) : l.drop p = l[p] :: l.drop (p + 1) := List.drop_eq_getElem_cons h
end Bm
/-- All bits of bytes. -/
def bitsS (s : List Nat) : List Nat := Bm.bitsOf (Bm.valB s) (8 * s.length)
theorem bitsS_length (s : List Nat) : (bitsS s).length = 8 * s.length := Bm.bitsOf_length _ _
theorem bitsS_get (s : List Nat) (p : Nat) (h : p < (bitsS s).length) : (bitsS s)[p] = Bm.valB s / 2 ^ p % 2 := Bm.bitsOf_get _ _ _ h
/-- What symbol answers. -/
def LSymP (ls s : List Nat) (br pos : Nat) (e : Ending) (w' : World) : Option Nat → Prop
  | none => e = .returned (.tuple #[.int .u8 0, .bool false])
  | some k => e = .returned (.tuple #[.int .u8 (k : Int), .bool true]) ∧ k < ls.length ∧ pos + ls[k]?.getD 0 ≤ 8 * s.length ∧ RS w' br 0 s (pos + ls[k]?.getD 0)
set_option maxHeartbeats 4000000 in
set_option maxRecDepth 100000 in
theorem litsym_any (base g cap br pos : Nat) (ls s : List Nat) (P : List (List Nat)) (F : List (Int × Int)) (w : World) (hW : Bm.WholeN ls) (hT : Bm.Tr ls ls.length P F) (hft : FT w base g cap F) (hl : s.length ≤ 10000) (hs : ∀ x ∈ s, x < 256) (hp : pos ≤ 8 * s.length) (hrs : RS w br 0 s pos) (hne : g ≠ br) :
    Calls Try.prog 60 #[.slice (some ⟨g, 0, none⟩) F.length cap, .pointer (some ⟨br, 0, none⟩)] w fun e w' => LSymP ls s br pos e w' (Bm.metS ls ((bitsS s).drop pos)) ∧ w.grownBy w' (some br) := by
  have hLl := bitsS_length s
  have hl256 := hW.1
  obtain ⟨res, hres⟩ : ∃ r, r = Bm.metS ls ((bitsS s).drop pos) := ⟨_, rfl⟩
  rw [← hres]
  have Hres := Lib.hid hres
  have HW := Lib.hid hW
  have HT := Lib.hid hT
  have Hft := Lib.hid hft
  have Hs := Lib.hid hs
  have Hrs := Lib.hid hrs
  have HLl := Lib.hid hLl
  clear hres hW hT hft hs hrs hLl
  go_enter Try.func60, Try.ntmps60
  go_wp2
  go_loopw [6] (fun av wr => ∃ (m a : Nat), pos + m ≤ 8 * s.length ∧ av = .int .i64 (a : Int) ∧ Hid (P[a]? = some (((bitsS s).drop pos).take m)) ∧ Hid (RS wr br 0 s (pos + m)) ∧ Hid (w.grownBy wr (some br))) (fun _ wr => 8 * s.length - (intOf ((wr.cell? ⟨br, 0 + 1, none⟩).getD undef)).toNat)
  case atStart => exact ⟨0, 0, by omega, rfl, Lib.hid (by rw [List.take_zero]; exact HT.out.root), Hrs, Lib.hid (grown_refl _ _)⟩
  case round =>
    obtain ⟨m, a, hm, rfl, hat, hrs, hgr⟩ := hrel
    clear Hrs
    have hme0 : wr.cell? ⟨br, 0 + 1, none⟩ = some (.int .i64 ((pos + m : Nat) : Int)) := hrs.out.2.1
    have Hme0 := Lib.hid hme0
    clear hme0
    by_cases hlt : pos + m < 8 * s.length
    · have htk := take_ok br 0 s (pos + m) 1 wr (by omega) Hs.out (by omega) (by omega) hrs.out
      have hge := bitsS_get s (pos + m) (by rw [HLl.out]; exact hlt)
      have hdp : (bitsS s).drop (pos + m) = (bitsS s)[pos + m]'(by rw [HLl.out]; exact hlt) :: (bitsS s).drop (pos + m + 1) := Bm.drop_cons _ _ _
      rw [hge] at hdp
      have hsp : (bitsS s).drop pos = ((bitsS s).drop pos).take m ++ (bitsS s).drop (pos + m) := by
        rw [← List.drop_drop]
        exact (List.take_append_drop m _).symm
      have hnx : ((bitsS s).drop pos).take (m + 1) = ((bitsS s).drop pos).take m ++ [Bm.valB s / 2 ^ (pos + m) % 2] := by
        rw [List.take_succ_eq_append_getElem (by rw [List.length_drop, HLl.out]; omega), List.getElem_drop, hge]
      have hb2 : Bm.valB s / 2 ^ (pos + m) % 2 < 2 := Nat.mod_lt _ (by decide)
      rw [Nat.pow_one] at htk
      rw [hdp] at hsp
      have Htk := Lib.hid htk
      have Hsp := Lib.hid hsp
      have Hnx := Lib.hid hnx
      clear htk hsp hnx hdp hge
      generalize Bm.valB s / 2 ^ (pos + m) % 2 = bb at *
      go_wp2_with fail
      refine Htk.out.mono ?_
      rintro e w2 ⟨rfl, hrs2, hg2⟩
      have hal : a < F.length := by rw [HT.out.len]; exact Bm.at_lt hat.out
      have cz := (Hft.out.keep (hgrown_trans10 hgr.out hg2) (fun e => hne (by injection e with e; exact e.symm))).cell hal hb2
      have Hrs2 := Lib.hid hrs2
      have Hg2 := Lib.hid (hgrown_trans10 hgr.out hg2)
      have hml : (((bitsS s).drop pos).take m).length = m := by rw [List.length_take, List.length_drop, HLl.out]; omega
      have Hml := Lib.hid hml
      clear hrs2 hg2 hrs hgr Htk hml
      rcases Int.lt_trichotomy (Bm.entF F a bb) 0 with hz | hz | hz
      · obtain ⟨k, hk, hzk, hlk, hmt⟩ := HT.out.read_leaf HW.out hat.out hb2 hz ((bitsS s).drop (pos + m + 1))
        rw [← Hsp.out, ← Hres.out] at hmt
        rw [Hml.out] at hlk
        rw [hzk] at cz
        have Hmt := Lib.hid hmt
        have Hlk := Lib.hid hlk
        clear hz hzk hmt hlk
        go_wp2
        go_ret2
        rw [Hmt.out]
        refine ⟨⟨?_, hk, by rw [Hlk.out]; omega, by rw [Hlk.out]; exact Hrs2.out⟩, Hg2.out⟩
        exact congrArg (fun z : Int => Ending.returned (Value.tuple #[.int .u8 z, .bool true])) (show -1 - (-1 - (k : Int)) = (k : Int) by omega)
      · rw [hz] at cz
        have hmt := HT.out.read_zero HW.out hat.out hb2 hz ((bitsS s).drop (pos + m + 1))
        rw [← Hsp.out, ← Hres.out] at hmt
        have Hmt := Lib.hid hmt
        clear hz hmt
        go_wp2
        go_ret2
        rw [Hmt.out]
        exact ⟨rfl, Hg2.out⟩
      · obtain ⟨z, hzz⟩ : ∃ z : Nat, Bm.entF F a bb = (z : Int) := ⟨(Bm.entF F a bb).toNat, by omega⟩
        have hon := HT.out.on hat.out hb2 hz
        rw [hzz, Int.toNat_natCast, ← Hnx.out] at hon
        rw [hzz] at cz hz
        have hz0 : ((z : Int) == 0) = false := by rw [beq_eq_false_iff_ne]; omega
        have Hon := Lib.hid hon
        clear hon hzz
        go_wp2
        go_roundw
        case rel => exact ⟨m + 1, z, by omega, rfl, Hon, Hrs2, Hg2⟩
        case measure => rw [Hme0.out, show w2.cell? ⟨br, 0 + 1, none⟩ = some (.int .i64 ((pos + m + 1 : Nat) : Int)) from Hrs2.out.2.1]; simp [intOf]; omega
    · have htk := take_few br 0 s (pos + m) 1 wr (by omega) (by omega) (by omega) (by omega) hrs.out
      have hmt := HT.out.read_end HW.out (Bm.mem_at hat.out)
      rw [List.take_of_length_le (by rw [List.length_drop, HLl.out]; omega), ← Hres.out] at hmt
      have Htk := Lib.hid htk
      have Hmt := Lib.hid hmt
      clear htk hmt hrs
      go_wp2_with fail
      refine Htk.out.mono ?_
      rintro e w2 ⟨rfl, k, rfl⟩
      go_wp2
      go_ret2
      rw [Hmt.out]
      exact ⟨rfl, grown_drewN hgr.out k⟩
set_option maxHeartbeats 4000000 in
set_option maxRecDepth 100000 in
theorem ldec_yes (A : Option Addr) (c : Nat) (ls s : List Nat) (N : Nat) (w : World) (hW : Bm.WholeN ls) (hN : N ≤ 1048576) (hl : s.length ≤ 1000) (hs : ∀ x ∈ s, x < 256) (hr : Reads w A (i64s ls))
    (hcd : Calls Try.prog 48 #[.slice A ls.length c] w fun e w' => ∃ g, e = .returned (.tuple #[.slice (some ⟨g, 0, none⟩) ls.length ls.length, .bool true]) ∧ Reads w' (some ⟨g, 0, none⟩) (i64s (Bm.codesN ls)) ∧ w.heap.size ≤ g ∧ Below w.heap.size w w') :
    Calls Try.prog 39 #[.slice A ls.length c, .string (strOf s), .int .i64 (N : Int)] w fun e w' => BytesQ w' e (Bm.decT ls s N) ∧ Below w.heap.size w w' := by
  obtain ⟨i0, hi, hz0, hz1, hz2⟩ := info_parts info_u8
  obtain ⟨res, hres⟩ : ∃ r, r = Bm.decT ls s N := ⟨_, rfl⟩
  rw [← hres]
  have Hres : Hid (res = (Bm.decS ls N (bitsS s)).bind Bm.decF) := Lib.hid hres
  have HW := Lib.hid hW
  have Hcd := Lib.hid hcd
  have Hr := Lib.hid hr
  have Hs := Lib.hid hs
  clear hres hW hr hcd hs
  go_enter Try.func39, Try.ntmps39
  go_wp2_with fail
  refine Hcd.out.mono ?_
  rintro e w1 ⟨gc, rfl, hrc, hgc, hb1⟩
  have Htr := Lib.hid (littree_any A (some ⟨gc, 0, none⟩) c ls.length ls w1 HW.out (reads_on Hr.out hb1) hrc)
  have Hb1 := Lib.hid hb1
  clear hrc hb1 Hcd Hr
  go_wp2_with fail
  refine Htr.out.mono ?_
  rintro e w2 ⟨g, cap, P, F, rfl, hft, hT, hb2⟩
  obtain ⟨w3, cap3, hconv, hcells, hb3⟩ := conv_back w2 s Hs.out
  have hrd3 : Reads w3 (some ⟨w2.heap.size, 0, none⟩) (u8s s) := fun _ => ⟨_, _, rfl, fun j hj => by
    rw [u8s_length] at hj
    rw [Nat.zero_add, hcells j hj, u8s_get? s j hj]⟩
  have hgl : g < w2.heap.size := hft.lt
  have hb23 := Hb1.out.trans (hb2.mono Hb1.out.size)
  have hb33 := hb23.trans (hb3.mono hb23.size)
  have Hft3 := Lib.hid (hft.below hb3)
  have Hnr := Lib.hid (newr_any (some ⟨w2.heap.size, 0, none⟩) cap3 s w3 Hs.out hrd3)
  have Hb3 := Lib.hid hb33
  have HT := Lib.hid hT
  have hgl3 : g < w3.heap.size := Nat.lt_of_lt_of_le hgl hb3.size
  clear hft hT hb2 hcells hb3 hrd3 hb23 hb33 Htr Hb1 hgl
  go_wp2_with fail
  refine Hnr.out.mono ?_
  rintro e w4 ⟨rfl, hrs, hb4⟩
  have Hrs4 := Lib.hid hrs
  have Hft4 := Lib.hid (Hft3.out.below hb4)
  have Hb4 := Lib.hid (Hb3.out.trans (hb4.mono Hb3.out.size))
  have hl4 : w3.heap.size < w4.heap.size := hrs.2.2.2
  clear hrs hb4 Hnr Hft3 hconv
  go_wp2_with (at_make; refine wpList_make_full _ rfl _ _ 32 rfl w.heap.size 5 i0 (.int .u8 0) 1 Try.underlying32 hi hz0 hz1 .i64 .i64 _ _ N rfl rfl ?c1 ?c1 ?c2 ?c3 ?c4 ?_)
  case c1 => omega
  case c2 => first | omega | (rw [hz2]; omega)
  case c3 => unfold maxLen; omega
  try case c4 => exact Hb4.out.size
  intro w5 hown5 hg5
  have hb5 := below_of_grown hg5
  have Hr5 := Lib.hid (row_of_own hown5)
  have Hrs5 := Lib.hid (Hrs4.out.keep hg5 (by simp))
  have Hft5 := Lib.hid (Hft4.out.below hb5)
  have Hb5 := Lib.hid (Hb4.out.trans (hb5.mono Hb4.out.size))
  have hlow : w.heap.size ≤ w3.heap.size := Hb3.out.size
  clear hown5 hg5 hb5 hi hz0 hz1 hz2 Hrs4 Hft4 Hb4 Hb3
  generalize w4.heap.size = gb at *
  generalize w3.heap.size = br at *
  go_wp2
  go_loopw [39] (fun iv wr => ∃ (i pos : Nat) (d : List Nat), i ≤ N ∧ iv = .int .i64 (i : Int) ∧ d.length = i ∧ pos ≤ 8 * s.length ∧ Hid (Bm.decS ls i (bitsS s) = some (d, (bitsS s).drop pos)) ∧ Hid (RS wr br 0 s pos) ∧ Hid (Row wr gb 5 (u8s (d ++ List.replicate (N - i) 0))) ∧ Hid (FT wr w1.heap.size g cap F) ∧ Hid (Below w.heap.size w wr)) (fun iv _ => N - (intOf iv).toNat)
  case atStart => exact ⟨0, 0, [], by omega, rfl, rfl, by omega, Lib.hid (by rw [List.drop_zero]; rfl), Hrs5, Lib.hid (by rw [List.nil_append, Nat.sub_zero]; exact Hr5.out), Hft5, Hb5⟩
  case round =>
    obtain ⟨i, pos, d, hiN, rfl, hdl, hpos, hdec, hrs, hrow, hft, hbel⟩ := hrel
    clear Hrs5 Hr5 Hft5 Hb5
    by_cases hin : i < N
    · have hsy := litsym_any w1.heap.size g cap br pos ls s P F wr HW.out HT.out hft.out (by omega) Hs.out hpos hrs.out (by omega)
      have hsn := Bm.decS_snoc ls i (bitsS s)
      rw [hdec.out, Option.bind_some] at hsn
      dsimp only at hsn
      have hno : Bm.decS ls (i + 1) (bitsS s) = none → res = none := fun h => by
        have := Bm.decS_none ls (bitsS s) (i + 1) h (N - (i + 1))
        rw [show i + 1 + (N - (i + 1)) = N by omega] at this
        rw [Hres.out, this]
        rfl
      have hset : ∀ W (k : Nat), Row W gb 5 (u8s (d ++ List.replicate (N - i) 0)) → Row (W.setCell ⟨gb, i, none⟩ (.int .u8 (k : Int))) gb 5 (u8s ((d ++ [k]) ++ List.replicate (N - (i + 1)) 0)) := fun W k h => by
        have h1 := h.set_ i (.int .u8 (k : Int))
        obtain ⟨m, hm⟩ : ∃ m, N - i = m + 1 := ⟨N - i - 1, by omega⟩
        rw [u8s_set, hm, List.replicate_succ, List.set_append_right _ _ (by omega), hdl, Nat.sub_self, List.set_cons_zero] at h1
        rw [show N - (i + 1) = m by omega, List.append_assoc]
        exact h1
      have hcl : ∀ W, Row W gb 5 (u8s (d ++ List.replicate (N - i) 0)) → ∃ v, W.cell? ⟨gb, i, none⟩ = some v := fun W h => ⟨_, (h.cell i).trans (List.getElem?_eq_getElem (by rw [u8s_length, List.length_append, List.length_replicate]; omega))⟩
      have Hsy := Lib.hid hsy
      have Hsn := Lib.hid hsn
      have Hno := Lib.hid hno
      have Hset := Lib.hid hset
      have Hcl := Lib.hid hcl
      clear hsy hsn hno hset hcl hdec hrs
      cases hms : Bm.metS ls ((bitsS s).drop pos) with
      | none =>
        rw [hms] at Hsy Hsn
        have Hx := Lib.hid (Hno.out Hsn.out)
        clear hms Hno Hsn Hset
        go_wp2_with fail
        refine Hsy.out.mono ?_
        rintro e w6 ⟨he, hg6⟩
        have he2 : e = .returned (.tuple #[.int .u8 0, .bool false]) := he
        subst he2
        have hrow6 : Row w6 gb 5 (u8s (d ++ List.replicate (N - i) 0)) := hrow.out.keep (hg6.block gb hrow.out.lt (fun e => by injection e with e; omega))
        obtain ⟨v0, hcd⟩ := Hcl.out w6 hrow6
        have hfd : w6.frozen? ⟨gb, i, none⟩ = false := hrow6.free i
        have hb6 : Below w.heap.size w w6 := hbel.out.grown hg6 hbel.out.size (fun k e => by injection e with e; omega)
        have Hb7 := Lib.hid (hb6.setCell (p := ⟨gb, i, none⟩) (by show w.heap.size ≤ gb; omega) (.int .u8 0))
        clear he hg6 hb6 hrow6 hrow hft hbel Hsy Hcl
        go_wp2
        go_ret2
        rw [Hx.out]
        exact ⟨⟨_, _, rfl⟩, Hb7.out⟩
      | some k =>
        rw [hms] at Hsy Hsn
        rw [Option.map_some, List.drop_drop] at Hsn
        clear hms Hno
        go_wp2_with fail
        refine Hsy.out.mono ?_
        rintro e w6 ⟨⟨he, hk, hpk, hrs6⟩, hg6⟩
        subst he
        have hrow6 : Row w6 gb 5 (u8s (d ++ List.replicate (N - i) 0)) := hrow.out.keep (hg6.block gb hrow.out.lt (fun e => by injection e with e; omega))
        obtain ⟨v0, hcd⟩ := Hcl.out w6 hrow6
        have hfd : w6.frozen? ⟨gb, i, none⟩ = false := hrow6.free i
        have hb6 : Below w.heap.size w w6 := hbel.out.grown hg6 hbel.out.size (fun k e => by injection e with e; omega)
        have Hb7 := Lib.hid (hb6.setCell (p := ⟨gb, i, none⟩) (by show w.heap.size ≤ gb; omega) (.int .u8 (k : Int)))
        have Hrow7 := Lib.hid (Hset.out w6 k hrow6)
        have hft6 : FT w6 w1.heap.size g cap F := hft.out.keep hg6 (fun e => by injection e with e; omega)
        have hft7 : FT (w6.setCell ⟨gb, i, none⟩ (.int .u8 (k : Int))) w1.heap.size g cap F := hft6.keep (row := some gb) (grown_set (grown_refl w6 (some gb)) i _) (fun e => by injection e with e; omega)
        have hrs7 : RS (w6.setCell ⟨gb, i, none⟩ (.int .u8 (k : Int))) br 0 s (pos + ls[k]?.getD 0) := hrs6.keep (row := some gb) (grown_set (grown_refl w6 (some gb)) i _) (fun e => by injection e with e; omega)
        have Hft7 := Lib.hid hft7
        have Hrs7 := Lib.hid hrs7
        clear hg6 hb6 hrow6 hrow hft hbel Hsy Hcl Hset hft6 hft7 hrs6 hrs7
        go_wp2
        go_roundw
        case rel => exact ⟨i + 1, pos + ls[k]?.getD 0, d ++ [k], by omega, by go_num, by simp [hdl], hpk, Hsn, Hrs7, Hrow7, Hft7, Hb7⟩
        case measure => simp [intOf]; omega
    · obtain rfl : i = N := by omega
      rw [Nat.sub_self, List.replicate_zero, List.append_nil] at hrow
      have hend := litend_any br s pos wr (by omega) Hs.out hpos hrs.out
      have hrr : res = Bm.decF (d, (bitsS s).drop pos) := by rw [Hres.out, hdec.out]; rfl
      have Hend := Lib.hid hend
      have Hrow := Lib.hid hrow.out
      by_cases hE : Bm.endB s pos
      · have hx : res = some d := by rw [hrr]; exact if_pos hE
        rw [decide_eq_true hE] at Hend
        have Hx := Lib.hid hx
        have Hdl := Lib.hid hdl
        clear hend hrr hx hrs hdec hrow hft
        go_wp2_with fail
        refine Hend.out.mono ?_
        rintro e w6 ⟨rfl, hg6⟩
        have hrow6 : Row w6 gb 5 (u8s d) := Hrow.out.keep (hg6.block gb Hrow.out.lt (fun e => by injection e with e; omega))
        have Hb6 := Lib.hid (hbel.out.grown hg6 hbel.out.size (fun k e => by injection e with e; omega))
        have Hrd := Lib.hid (row_reads hrow6)
        clear hg6 hrow6
        go_wp2
        go_ret2
        rw [Hx.out]
        exact ⟨⟨some ⟨gb, 0, none⟩, i, by rw [Hdl.out]; rfl, by rw [Hdl.out]; omega, Hrd.out⟩, Hb6.out⟩
      · have hx : res = none := by rw [hrr]; exact if_neg hE
        rw [decide_eq_false hE] at Hend
        have Hx := Lib.hid hx
        clear hend hrr hx hrs hdec hrow hft
        go_wp2_with fail
        refine Hend.out.mono ?_
        rintro e w6 ⟨rfl, hg6⟩
        have Hb6 := Lib.hid (hbel.out.grown hg6 hbel.out.size (fun k e => by injection e with e; omega))
        clear hg6
        go_wp2
        go_ret2
        rw [Hx.out]
        exact ⟨⟨_, _, rfl⟩, Hb6.out⟩
theorem ldec_out (A : Option Addr) (c m : Nat) (s : ByteArray) (n : Int) (w : World) (hn : n < 0 ∨ 1048576 < n)
    (hcd : Calls Try.prog 48 #[.slice A m c] w fun e w' => ∃ g, e = .returned (.tuple #[.slice (some ⟨g, 0, none⟩) m m, .bool true]) ∧ Below w.heap.size w w') :
    Calls Try.prog 39 #[.slice A m c, .string s, .int .i64 n] w fun e w' => BytesQ w' e none ∧ Below w.heap.size w w' := by
  have H := Lib.hid hcd
  clear hcd
  rcases hn with hn | hn
  · go_enter Try.func39, Try.ntmps39
    go_wp2_with fail
    refine H.out.mono ?_
    rintro e w' ⟨g, rfl, hb⟩
    have Hb := Lib.hid hb
    clear H hb
    go_wp2
    go_ret2
    exact ⟨⟨_, _, rfl⟩, Hb.out⟩
  · have hd : decide (n < 0) = false := decide_eq_false (by omega)
    go_enter Try.func39, Try.ntmps39
    go_wp2_with fail
    refine H.out.mono ?_
    rintro e w' ⟨g, rfl, hb⟩
    have Hb := Lib.hid hb
    clear H hb
    go_wp2
    go_ret2
    exact ⟨⟨_, _, rfl⟩, Hb.out⟩
theorem ldec_no (A : Option Addr) (c m : Nat) (s : ByteArray) (n : Int) (w : World)
    (hcd : Calls Try.prog 48 #[.slice A m c] w fun e w' => e = .returned (.tuple #[.slice none 0 0, .bool false]) ∧ w = w') :
    Calls Try.prog 39 #[.slice A m c, .string s, .int .i64 n] w fun e w' => BytesQ w' e none ∧ Below w.heap.size w w' := by
  have H := Lib.hid hcd
  clear hcd
  go_enter Try.func39, Try.ntmps39
  go_wp2_with fail
  refine H.out.mono ?_
  rintro e w' ⟨rfl, rfl⟩
  clear H
  go_wp2
  go_ret2
  exact ⟨⟨_, _, rfl⟩, Below.refl _ _⟩
theorem ldec_is : LDecOk := by
  intro w A c l s n hl hc hb hsl hs hn hr
  by_cases hW : Bm.WholeI l
  · have h := hcodes_yes A c l w hl hr hW
    by_cases h2 : 0 ≤ n ∧ n ≤ 1048576
    · rw [if_pos ⟨hW, h2⟩]
      obtain ⟨N, rfl⟩ := Int.eq_ofNat_of_zero_le h2.1
      rw [Int.toNat_natCast]
      obtain ⟨e, h11, hln⟩ := Bm.lenR_nat l hW.1
      have h1 := ldec_yes A c (l.map Int.toNat) s N w hW.2 (by omega) hsl hs (by rw [← i64z_nat, ← e]; exact hr) (by rw [hln]; exact h)
      rw [hln] at h1
      exact h1
    · rw [if_neg (fun h => h2 h.2)]
      exact ldec_out A c l.length (strOf s) n w (by omega) (h.mono fun e w' ⟨g, h1, _, _, h4⟩ => ⟨g, h1, h4⟩)
  · rw [if_neg (fun h => hW h.1)]
    exact ldec_no A c l.length (strOf s) n w (hcodes_no A c l w hl hr hW)
end Go.Proofs.Ytgcfdjgfnagmjaa
