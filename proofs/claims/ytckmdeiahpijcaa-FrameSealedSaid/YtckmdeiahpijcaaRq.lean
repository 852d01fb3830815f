/-
  Layer 24 (frame): FrameFeeds, by its walk: true for every slice of pieces. Conditions: none.
-/
import Derived.Test.YtckmdeiahpijcaaRp
import Derived.Test.YtckmdeiahpijcaaRl
import Derived.Test.YtckmdeiahpijcaaRa
import Derived.Deep.DeepCutAuto
namespace Go.Proofs.Ytckmdeiahpijcaa
open Go.RowKit

/-- The Cutter and what the law notes of it: the error, how many were fed. -/
def FsI (W : World) (c : Nat) (all rest : List Nat) (bad many : Nat) : Prop := (bad = 0 ∧ CuI W c all rest ∧ many = all.length) ∨ (bad ≠ 0 ∧ CuE W c bad many)
theorem FsI.keep {w w' : World} {c : Nat} {all rest : List Nat} {bad many : Nat} (h : FsI w c all rest bad many) (hb : w'.heap[c]? = w.heap[c]?) : FsI w' c all rest bad many :=
  h.elim (fun ⟨a, b, d⟩ => .inl ⟨a, b.keep hb, d⟩) (fun ⟨a, b⟩ => .inr ⟨a, b.keep hb⟩)
theorem FsI.lt {w : World} {c : Nat} {all rest : List Nat} {bad many : Nat} (h : FsI w c all rest bad many) : c < w.heap.size :=
  h.elim (fun ⟨_, b, _⟩ => b.lt) (fun ⟨_, b⟩ => b.lt)
theorem FsI.err {w : World} {c : Nat} {all rest : List Nat} {bad many : Nat} (h : FsI w c all rest bad many) : Calls Try.prog 21 #[.pointer (some ⟨c, 0, none⟩)] w fun x w' => x = .returned (.int .i64 (bad : Int)) ∧ w = w' :=
  h.elim (fun ⟨a, b, _⟩ => by rw [a]; exact b.err) (fun ⟨_, b⟩ => b.err)
theorem FsI.count {w : World} {c : Nat} {all rest : List Nat} {bad many : Nat} (h : FsI w c all rest bad many) : Calls Try.prog 20 #[.pointer (some ⟨c, 0, none⟩)] w fun x w' => x = .returned (.int .i64 (many : Int)) ∧ w = w' :=
  h.elim (fun ⟨_, b, d⟩ => by rw [d]; exact b.count) (fun ⟨_, b⟩ => b.count)
/-- What the law's own texts are: bytes, so many at most. -/
def TxK (all sent rest : List Nat) (n : Nat) : Prop := (∀ x ∈ all, x < 256) ∧ (∀ x ∈ sent, x < 256) ∧ (∀ x ∈ rest, x < 256) ∧ all.length ≤ n ∧ sent.length ≤ n ∧ rest.length ≤ n
theorem TxK.le {all sent rest : List Nat} {n m : Nat} (h : TxK all sent rest n) (hm : n ≤ m) : TxK all sent rest m :=
  ⟨h.1, h.2.1, h.2.2.1, Nat.le_trans h.2.2.2.1 hm, Nat.le_trans h.2.2.2.2.1 hm, Nat.le_trans h.2.2.2.2.2 hm⟩
theorem feedO_bad {s all' : List Nat} {sd : Bool} {sl : Nat} {f : Bm.Frm} {n e : Nat} (h : (f, n, e) = Bm.firstF s) (he : e ≠ 0) : feedO s all' sd sl = (Bm.zfr, false, e) := by
  unfold feedO
  rw [← h, if_pos he]
theorem feedO_more {s all' : List Nat} {sd : Bool} {sl : Nat} {f : Bm.Frm} {n e : Nat} (h : (f, n, e) = Bm.firstF s) (he : e = 0) (hn : n = 0) : feedO s all' sd sl = (Bm.zfr, false, 0) := by
  unfold feedO
  rw [← h, if_neg (by simpa using he), if_pos hn]
theorem feedO_no {s all' : List Nat} {sd : Bool} {sl : Nat} {f : Bm.Frm} {n e : Nat} (h : (f, n, e) = Bm.firstF s) (he : e = 0) (hn : n ≠ 0) (hs : ¬ (sd = true ∧ sl = Bm.sumOf all')) : feedO s all' sd sl = (Bm.zfr, false, 4) := by
  unfold feedO
  rw [← h, if_neg (by simpa using he), if_neg hn, if_neg hs]
theorem feedO_yes {s all' : List Nat} {sd : Bool} {sl : Nat} {f : Bm.Frm} {n e : Nat} (h : (f, n, e) = Bm.firstF s) (he : e = 0) (hn : n ≠ 0) (hs : sd = true ∧ sl = Bm.sumOf all') : feedO s all' sd sl = (f, true, 0) := by
  unfold feedO
  rw [← h, if_neg (by simpa using he), if_neg hn, if_pos hs]
theorem firstF_lt (s : List Nat) (hs : ∀ x ∈ s, x < 256) : ∀ x ∈ (Bm.firstF s).1.2, x < 256 := by
  unfold Bm.firstF
  split
  · intro x hx; cases hx
  · split
    · intro x hx; cases hx
    · split
      · intro x hx; cases hx
      · split
        · intro x hx; cases hx
        · split
          · intro x hx; cases hx
          · split
            · intro x hx; exact hs x (List.mem_of_mem_drop (List.mem_of_mem_take hx))
            · intro x hx; cases hx
set_option linter.unusedSimpArgs false in
set_option maxHeartbeats 4000000 in
set_option maxRecDepth 100000 in
theorem frfeeds_in (A : Option Addr) (cap : Nat) (xs : List Fpc) (w : World) (hl : xs.length ≤ 10) (hA : ArgFp w A xs.length cap xs) :
    Calls Try.prog 4 #[.slice A xs.length cap] w fun e w' => e = .returned (.bool true) ∧ Below w.heap.size w w' := by
  obtain ⟨_, hok, hcell, _, _⟩ := hA
  have Hok := Lib.hid hok
  have Hcell := Lib.hid hcell
  have Haw := Lib.hid (frawake_any w)
  have hlI : ¬ (10 : Int) < (xs.length : Int) := by omega
  clear hok hcell
  go_enter Try.func4, Try.ntmps4
  go_wp2_with fail
  refine Haw.out.mono ?_
  rintro e w1 ⟨rfl, hb1⟩
  have HB1 := Lib.hid hb1
  clear hb1 Haw
  go_wp2_with fail
  refine (frnew_any w1).mono ?_
  rintro e w2 ⟨c, rfl, hc2, hcl, hb2⟩
  have HB2 := Lib.hid (HB1.out.trans (hb2.mono HB1.out.size))
  have Hcl : Hid (w.heap.size ≤ c) := Lib.hid (Nat.le_trans HB1.out.size hcl)
  have Hc2 : Hid (FsI w2 c [] [] 0 0) := Lib.hid (.inl ⟨rfl, hc2, rfl⟩)
  clear hc2 hcl hb2 HB1 hlI
  go_wp2
  go_loopw [4, 5, 6, 7, 8, 29] (fun s4 s5 s6 s7 s8 i wr => ∃ (k : Nat) (all sent rest : List Nat) (bad many : Nat), k ≤ xs.length ∧ i = .int .i64 (k : Int) ∧ s4 = .string (strOf all) ∧ s5 = .string (strOf sent) ∧ s6 = .string (strOf rest) ∧ s7 = .int .i64 (bad : Int) ∧ s8 = .int .i64 (many : Int) ∧ many ≤ 60 * k ∧
    Hid (TxK all sent rest (60 * k)) ∧ Hid (FsI wr c all rest bad many) ∧ Hid (Below w.heap.size w wr)) (fun _ _ _ _ _ i _ => xs.length - (intOf i).toNat)
  case atStart => exact ⟨0, [], [], [], 0, 0, Nat.zero_le _, rfl, rfl, rfl, rfl, rfl, rfl, Nat.zero_le _, Lib.hid ⟨by simp, by simp, by simp, by simp, by simp, by simp⟩, Hc2, HB2⟩
  case round =>
    obtain ⟨k, all, sent, rest, bad, many, hk, rfl, rfl, rfl, rfl, rfl, rfl, hmany, HTx, HI, Hbel⟩ := hrel
    clear Hc2 HB2
    by_cases hkl : k < xs.length
    · obtain ⟨g, off, rfl, hg, hc⟩ := Hcell.out (by omega)
      obtain ⟨q0, q1⟩ := hc k hkl
      have q0 := (Hbel.out.cell (p := ⟨g, off + k * 2, none⟩) hg).trans q0
      have q1 := (Hbel.out.cell (p := ⟨g, off + k * 2 + 1, none⟩) hg).trans q1
      obtain ⟨o0, o1⟩ := Hok.out xs[k] (List.getElem_mem hkl)
      have hkI : (k : Int) < (xs.length : Int) := by omega
      clear hc
      generalize xs[k] = dd at *
      obtain ⟨oth, l⟩ := dd
      dsimp only at q0 q1 o0 o1
      have Hlt := Lib.hid o0
      have hsz := strOf_size l
      clear o0 o1
      go_upto_region 12 with fail
      have hdr := Row.new wr 44 [.bool oth, .string (strOf l)]
      have hda : Below wr.heap.size wr (wr.alloc (.cells #[.bool oth, .string (strOf l)] 44)) := (Below.refl _ _).alloc (Nat.le_refl _) _
      have HI1 := Lib.hid (HI.out.keep (hda.block c HI.out.lt))
      have HB1 := Lib.hid (Hbel.out.trans (hda.mono Hbel.out.size))
      have HD := Lib.hid (show Row (wr.alloc (.cells #[.bool oth, .string (strOf l)] 44)) wr.heap.size 44 [.bool oth, .string (strOf l)] from hdr)
      have Hcx : Hid (c < wr.heap.size) := Lib.hid HI.out.lt
      have Hwx : Hid (w.heap.size ≤ wr.heap.size) := Lib.hid Hbel.out.size
      clear hdr hda HI Hbel q0 q1 hg
      generalize wr.alloc (.cells #[.bool oth, .string (strOf l)] 44) = wA at *
      generalize wr.heap.size = xB at *
      have e0 := HD.out.cell 0
      have e1 := HD.out.cell 1
      simp only [List.getElem?_cons_zero, List.getElem?_cons_succ] at e0 e1
      by_cases h60 : 60 < l.length
      · have h60I : (60 : Int) < (l.length : Int) := by omega
        generalize strOf l = tl at *
        generalize l.length = L at *
        go_wp2
        go_ret
        exact ⟨rfl, HB1.out⟩
      · have h60I : ¬ (60 : Int) < (l.length : Int) := by omega
        have Hidx : Hid (∀ i (hi : i < l.length), ∃ x : Nat, x < 256 ∧ (∀ W, (Instr.index 9 (.string (strOf l)) (.int .i64 (i : Int))).run Try.prog W = .ok (.int .u8 (x : Int)) W) ∧ ∀ W, (Instr.slice 9 (.string (strOf l)) (some (.int .i64 (i : Int))) (some (.int .i64 ((i : Int) + 1))) none).run Try.prog W = .ok (.string (strOf [x])) W) := Lib.hid (fun i hi => by
          refine ⟨l[i], Hlt.out _ (List.getElem_mem hi), fun W => index_at l i W hi (Hlt.out _ (List.getElem_mem hi)), fun W => ?_⟩
          have h1 := str_mid l i (i + 1) (by omega) (by omega) W
          rw [List.drop_take, List.drop_eq_getElem_cons hi, show i + 1 - i = 1 by omega] at h1
          exact h1)
        have Hk9 : Hid (k < 10) := Lib.hid (by omega)
        go_wp2
        go_loopw [4, 5, 6, 7, 8, 40] (fun s4 s5 s6 s7 s8 i wr => ∃ (q : Nat) (all sent rest : List Nat) (bad many : Nat), q ≤ l.length ∧ i = .int .i64 (q : Int) ∧ s4 = .string (strOf all) ∧ s5 = .string (strOf sent) ∧ s6 = .string (strOf rest) ∧ s7 = .int .i64 (bad : Int) ∧ s8 = .int .i64 (many : Int) ∧ many ≤ 60 * k + q ∧
          Hid (TxK all sent rest (60 * k + q)) ∧ Hid (FsI wr c all rest bad many) ∧ Hid (Below w.heap.size w wr) ∧ Hid (Row wr xB 44 [.bool oth, .string (strOf l)])) (fun _ _ _ _ _ i _ => l.length - (intOf i).toNat)
        case atStart => exact ⟨0, all, sent, rest, bad, many, Nat.zero_le _, rfl, rfl, rfl, rfl, rfl, rfl, hmany, HTx, HI1, HB1, HD⟩
        case round =>
          clear HTx HI1 HB1 HD e0 e1 hmany
          obtain ⟨q, all, sent, rest, bad, many, hq, rfl, rfl, rfl, rfl, rfl, rfl, hmany, HTx, HI, Hbel, HD⟩ := hrel
          by_cases hql : q < l.length
          · have hqI : (q : Int) < (l.length : Int) := by omega
            have hqb : q < 60 := by omega
            obtain ⟨x, hx, hix, hsx⟩ := Hidx.out q hql
            have hkb := Hk9.out
            have e0 := HD.out.cell 0
            have e1 := HD.out.cell 1
            simp only [List.getElem?_cons_zero, List.getElem?_cons_succ] at e0 e1
            have hq64 : IntKind.i64.wrap ((q : Int) + 1) = (q : Int) + 1 := by rw [IntKind.wrap_i64]; omega
            obtain ⟨B0, hB0⟩ : ∃ B, B = wr.heap.size := ⟨_, rfl⟩
            go_upto_region 18 with fail
            have hbr := Row.new wr 47 [.int .u8 (x : Int), .int .u64 0, .bool false]
            have hda : Below wr.heap.size wr (wr.alloc (.cells #[.int .u8 (x : Int), .int .u64 0, .bool false] 47)) := (Below.refl _ _).alloc (Nat.le_refl _) _
            have HI1 := Lib.hid (HI.out.keep (hda.block c HI.out.lt))
            have HBA := Lib.hid hda
            have HD1 := Lib.hid (row_below HD.out hda)
            have HBR : Hid (Row (wr.alloc (.cells #[.int .u8 (x : Int), .int .u64 0, .bool false] 47)) wr.heap.size 47 [.int .u8 (x : Int), .int .u64 0, .bool false]) := Lib.hid hbr
            have Hxl : Hid (xB < wr.heap.size) := Lib.hid HD.out.lt
            have Hcl2 : Hid (c < wr.heap.size) := Lib.hid HI.out.lt
            clear hbr hda e0 e1
            obtain ⟨wA, hwA⟩ : ∃ wA, wA = wr.alloc (.cells #[.int .u8 (x : Int), .int .u64 0, .bool false] 47) := ⟨_, rfl⟩
            rw [← hwA] at HI1 HBA HD1 HBR ⊢
            have e0 := HD1.out.cell 0
            have e1 := HD1.out.cell 1
            simp only [List.getElem?_cons_zero, List.getElem?_cons_succ] at e0 e1
            have b1 := HBR.out.cell 1
            have b2 := HBR.out.cell 2
            simp only [List.getElem?_cons_zero, List.getElem?_cons_succ] at b1 b2
            have g1 := HBR.out.free 1
            have g2 := HBR.out.free 2
            clear hwA
            rw [← hB0] at HBA HBR b1 b2 g1 g2 Hxl Hcl2 ⊢
            have HB0 := Lib.hid hB0
            clear hB0
            go_upto_if 50 with fail
            go_cut [5] (fun s5 wx => ∃ (sent' : List Nat) (sl : Nat) (sd : Bool), s5 = .string (strOf sent') ∧ Hid ((∀ x ∈ sent', x < 256) ∧ sent'.length ≤ 60 * k + (q + 1)) ∧ Hid (Row wx B0 47 [.int .u8 (x : Int), .int .u64 (sl : Int), .bool sd]) ∧ Hid (Below B0 wr wx))
            case first =>
              cases oth with
              | true =>
                go_wp2
                go_meet
                exact ⟨sent, 0, false, rfl, Lib.hid ⟨HTx.out.2.1, by have := HTx.out.2.2.2.2.1; omega⟩, HBR, HBA⟩
              | false =>
                have hadd := fun W => str_add sent [x] (by have := HTx.out.2.2.2.2.1; simp; omega) W
                have Hof := Lib.hid (fun W => gof_any (sent ++ [x]) W (by have := HTx.out.2.2.2.2.1; simp; omega) (append_lt HTx.out.2.1 (by simp; omega)))
                have Hs2 : Hid ((∀ y ∈ sent ++ [x], y < 256) ∧ (sent ++ [x]).length ≤ 60 * k + (q + 1)) := Lib.hid ⟨append_lt HTx.out.2.1 (by simp; omega), by have := HTx.out.2.2.2.2.1; rw [List.length_append, List.length_singleton]; omega⟩
                generalize Bm.sumOf (sent ++ [x]) = sm at *
                generalize hss : strOf (sent ++ [x]) = ss at *
                have Hss := Lib.hid hss
                clear hss
                generalize strOf sent = st at *
                go_wp2_with fail
                refine (Hof.out _).mono ?_
                rintro e w' ⟨rfl, rfl⟩
                go_wp2
                go_meet
                exact ⟨sent ++ [x], sm, true, by rw [Hss.out], Hs2, Lib.hid ((HBR.out.set_ 1 (.int .u64 (sm : Int))).set_ 2 (.bool true)), Lib.hid ((HBA.out.setCell (p := ⟨B0, 1, none⟩) (Nat.le_refl _) _).setCell (p := ⟨B0, 2, none⟩) (Nat.le_refl _) _)⟩
            case rest =>
              obtain ⟨sent', sl, sd, rfl, Hs2, HBR2, HBx⟩ := hcut
              have HI0 := HI
              have HDk := HD
              have HI2 := Lib.hid (HI.out.keep (HBx.out.block c Hcl2.out))
              have HD2 := Lib.hid (HD.out.keep (HBx.out.block xB Hxl.out))
              clear HI1 HBA HD1 HBR b1 b2 g1 g2 e0 e1 HI HD
              go_upto_if 64 with fail
              have hwr := Row.new wc 30 [.int .i64 0, .string ⟨#[]⟩]
              have hda : Below wc.heap.size wc (wc.alloc (.cells #[.int .i64 0, .string ⟨#[]⟩] 30)) := (Below.refl _ _).alloc (Nat.le_refl _) _
              have HI3 := Lib.hid (HI2.out.keep (hda.block c HI2.out.lt))
              have HD3 := Lib.hid (row_below HD2.out hda)
              have HBR3 := Lib.hid (row_below HBR2.out hda)
              have HWR3 : Hid (Row (wc.alloc (.cells #[.int .i64 0, .string ⟨#[]⟩] 30)) wc.heap.size 30 [.int .i64 0, .string ⟨#[]⟩]) := Lib.hid hwr
              have HB3 := Lib.hid (HBx.out.trans (hda.mono (by have := HB0.out; have := HBx.out.size; omega)))
              have HlW : Hid (B0 < wc.heap.size) := Lib.hid HBR2.out.lt
              clear hwr hda HI2 HD2 HBR2 HBx
              generalize wc.alloc (.cells #[.int .i64 0, .string ⟨#[]⟩] 30) = wD at *
              generalize wc.heap.size = WB at *
              have e0 := HD3.out.cell 0
              have e1 := HD3.out.cell 1
              have b1 := HBR3.out.cell 1
              have b2 := HBR3.out.cell 2
              have v0 := HWR3.out.cell 0
              have v1 := HWR3.out.cell 1
              have y0 := HWR3.out.free 0
              have y1 := HWR3.out.free 1
              simp only [List.getElem?_cons_zero, List.getElem?_cons_succ] at e0 e1 b1 b2 v0 v1
              go_cut [4, 6, 7, 8, 14] (fun s4 s6 s7 s8 s14 wx => ∃ (all' rest' : List Nat) (bad' many' : Nat) (f : Bm.Frm) (is : Bool), s4 = .string (strOf all') ∧ s6 = .string (strOf rest') ∧ s7 = .int .i64 (bad' : Int) ∧ s8 = .int .i64 (many' : Int) ∧ s14 = .bool is ∧ many' ≤ 60 * k + (q + 1) ∧
                Hid (TxK all' sent' rest' (60 * k + (q + 1))) ∧ Hid (Row wx WB 30 (frL f)) ∧ Hid (Row wx B0 47 [.int .u8 (x : Int), .int .u64 (sl : Int), .bool sd]) ∧ Hid (Below B0 wr wx) ∧ Hid (∀ y ∈ f.2, y < 256) ∧
                Hid (∀ W, W.heap[c]? = wr.heap[c]? → Calls Try.prog 19 #[.pointer (some ⟨c, 0, none⟩), ppB x sl sd] W fun e w' => e = .returned (feedV (f, is, bad')) ∧ FsI w' c all' rest' bad' many' ∧ W.grownBy w' (some c)))
              case first =>
                by_cases hbad : bad = 0
                · have hbI : ((bad : Int) == 0) = true := by rw [hbad]; rfl
                  obtain ⟨hci, hma⟩ : CuI wr c all rest ∧ many = all.length := by
                    rcases HI0.out with ⟨_, h1, h2⟩ | ⟨h1, _⟩
                    · exact ⟨h1, h2⟩
                    · exact absurd hbad h1
                  have Hfd := Lib.hid (fun W hW => frfeed_any c x sl sd all rest W hx (by have := HTx.out.2.2.2.1; omega) (hci.keep hW))
                  have hadd1 := fun W => str_add all [x] (by have := HTx.out.2.2.2.1; simp; omega) W
                  have hadd2 := fun W => str_add rest [x] (by have := HTx.out.2.2.2.2.2; simp; omega) W
                  have hal : ∀ y ∈ all ++ [x], y < 256 := append_lt HTx.out.1 (by simp; omega)
                  have hrl : ∀ y ∈ rest ++ [x], y < 256 := append_lt HTx.out.2.2.1 (by simp; omega)
                  have hll : (all ++ [x]).length ≤ 60 * k + (q + 1) := by have := HTx.out.2.2.2.1; rw [List.length_append, List.length_singleton]; omega
                  have hlr : (rest ++ [x]).length ≤ 60 * k + (q + 1) := by have := HTx.out.2.2.2.2.2; rw [List.length_append, List.length_singleton]; omega
                  have Hof := Lib.hid (fun W => gof_any (all ++ [x]) W (by omega) hal)
                  have Hfst := Lib.hid (fun W => rffirst_any (rest ++ [x]) W hrl (by omega))
                  have Hmn : Hid (many + 1 = (all ++ [x]).length) := Lib.hid (by rw [hma, List.length_append, List.length_singleton])
                  have Htx1 : Hid (TxK (all ++ [x]) sent' (rest ++ [x]) (60 * k + (q + 1))) := Lib.hid ⟨hal, Hs2.out.1, hrl, hll, Hs2.out.2, hlr⟩
                  have Htx2 : Hid (TxK (all ++ [x]) sent' [] (60 * k + (q + 1))) := Lib.hid ⟨hal, Hs2.out.1, (by simp), hll, Hs2.out.2, (by simp)⟩
                  have Hflt := Lib.hid (firstF_lt _ hrl)
                  have Hq : Hid (many + 1 ≤ 60 * k + (q + 1)) := Lib.hid (by omega)
                  obtain ⟨⟨fk, fb⟩, n, er, hF⟩ : ∃ f n er, (f, n, er) = Bm.firstF (rest ++ [x]) := ⟨_, _, _, rfl⟩
                  rw [← hF] at Hfst Hflt
                  have HF := Lib.hid hF
                  have hm64 : IntKind.i64.wrap ((many : Int) + 1) = (many : Int) + 1 := by rw [IntKind.wrap_i64]; omega
                  clear hal hrl hll hlr hci hma hF
                  generalize has : strOf (all ++ [x]) = aS at *
                  generalize hrs : strOf (rest ++ [x]) = rs at *
                  have Has := Lib.hid has
                  have Hrs := Lib.hid hrs
                  obtain ⟨sm, hsm⟩ : ∃ sm, sm = Bm.sumOf (all ++ [x]) := ⟨_, rfl⟩
                  rw [← hsm] at Hof
                  have Hsm := Lib.hid hsm
                  clear has hrs hsm
                  go_wp2_with fail
                  go_quiet (fail)
                  go_wp2_with fail
                  refine (Hfst.out _).mono ?_
                  rintro e w5 ⟨rfl, hb5⟩
                  have HBR5 := Lib.hid (row_below (w := wD.drewN nq) HBR3.out hb5)
                  have HWR5 := Lib.hid (row_below (w := wD.drewN nq) HWR3.out hb5)
                  have HB5 : Hid (Below B0 wr w5) := Lib.hid (HB3.out.trans (show Below B0 wD w5 from (show Below wD.heap.size wD w5 from ⟨hb5.os, hb5.tape, hb5.output, hb5.size, hb5.block⟩).mono (by have := HBR3.out.lt; omega)))
                  clear hb5 Hfst e0 e1 b1 b2 v0 v1 y0 y1 HI3 HD3 HBR3 HWR3 HB3
                  unfold frV
                  dsimp only
                  go_upto_region 27 with fail
                  have HBR6 : Hid (Row (w5.alloc (.cells #[.int .i64 fk, .string (strOf fb)] 30)) B0 47 [.int .u8 (x : Int), .int .u64 (sl : Int), .bool sd]) := Lib.hid (HBR5.out.alloc _)
                  have HWR6 : Hid (Row (w5.alloc (.cells #[.int .i64 fk, .string (strOf fb)] 30)) WB 30 [.int .i64 0, .string ⟨#[]⟩]) := Lib.hid (HWR5.out.alloc _)
                  have HFR6 : Hid (Row (w5.alloc (.cells #[.int .i64 fk, .string (strOf fb)] 30)) w5.heap.size 30 [.int .i64 fk, .string (strOf fb)]) := Lib.hid (Row.new w5 _ _)
                  have HB6 : Hid (Below B0 wr (w5.alloc (.cells #[.int .i64 fk, .string (strOf fb)] 30))) := Lib.hid (HB5.out.alloc (by have := HBR5.out.lt; omega) _)
                  clear HBR5 HWR5 HB5
                  generalize (w5.alloc (.cells #[.int .i64 fk, .string (strOf fb)] 30)) = w6 at *
                  generalize w5.heap.size = FB at *
                  by_cases her : er = 0
                  · have herI : ((er : Int) != 0) = false := by rw [her]; rfl
                    by_cases hn : n = 0
                    · have hn0 : ¬ (0 : Int) < (n : Int) := by omega
                      go_wp2_with fail
                      go_quiet (fail)
                      go_wp2
                      go_meet
                      exact ⟨all ++ [x], rest ++ [x], 0, many + 1, Bm.zfr, false, by rw [Has.out], by rw [Hrs.out], rfl, congrArg (Value.int .i64) (by simp), rfl, Hq.out, Htx1, HWR6, HBR6, Lib.hid (below_drewN HB6.out _), Lib.hid (by intro y hy; cases hy), Lib.hid (fun W hW => (Hfd.out W hW).mono fun e w' ⟨h1, h2, h3⟩ => by
                        rw [feedO_more HF.out her hn] at h1 h2
                        exact ⟨h1, .inl ⟨rfl, feedW_part h2, Hmn.out⟩, h3⟩)⟩
                    · have hn0 : decide ((0 : Int) < (n : Int)) = true := decide_eq_true (by omega)
                      have hn2 : 0 < n := by omega
                      have b1 := HBR6.out.cell 1
                      have b2 := HBR6.out.cell 2
                      simp only [List.getElem?_cons_zero, List.getElem?_cons_succ] at b1 b2
                      cases sd with
                      | false =>
                        go_wp2_with fail
                        go_quiet (fail)
                        go_wp2
                        go_meet
                        exact ⟨all ++ [x], rest ++ [x], 4, many + 1, Bm.zfr, false, by rw [Has.out], by rw [Hrs.out], rfl, congrArg (Value.int .i64) (by simp), rfl, Hq.out, Htx1, HWR6, HBR6, Lib.hid (below_drewN HB6.out _), Lib.hid (by intro y hy; cases hy), Lib.hid (fun W hW => (Hfd.out W hW).mono fun e w' ⟨h1, h2, h3⟩ => by
                          rw [feedO_no HF.out her hn (fun h => by cases h.1)] at h1 h2
                          exact ⟨h1, .inr ⟨by decide, by rw [Hmn.out]; exact feedW_bad (by decide) h2⟩, h3⟩)⟩
                      | true =>
                        by_cases hv : sl = sm
                        · have hv2 : ((sl : Int) != (sm : Int)) = false := by rw [hv]; simp
                          have v0 := HWR6.out.cell 0
                          have v1 := HWR6.out.cell 1
                          have y0 := HWR6.out.free 0
                          have y1 := HWR6.out.free 1
                          have z0 := HFR6.out.cell 0
                          have z1 := HFR6.out.cell 1
                          simp only [List.getElem?_cons_zero, List.getElem?_cons_succ] at v0 v1 z0 z1
                          have Hv : Hid (sl = Bm.sumOf (all ++ [x])) := Lib.hid (by rw [hv, Hsm.out])
                          clear hv
                          go_wp2_with fail
                          go_quiet ((go_at_call 17; exact quiet_leftF (Hof.out _)))
                          go_wp2
                          go_meet
                          exact ⟨all ++ [x], [], 0, many + 1, (fk, fb), true, by rw [Has.out], rfl, rfl, congrArg (Value.int .i64) (by simp), rfl, Hq.out, Htx2, Lib.hid (fr_row HWR6.out rfl fk (strOf fb)), Lib.hid ((HBR6.out.far (p := ⟨WB, 0, none⟩) (by show B0 ≠ WB; have := HlW.out; omega) _).far (p := ⟨WB, 1, none⟩) (by show B0 ≠ WB; have := HlW.out; omega) _), Lib.hid (fr_set_below (g := WB) (below_drewN HB6.out _) (by have := HlW.out; omega) _ _), Hflt, Lib.hid (fun W hW => (Hfd.out W hW).mono fun e w' ⟨h1, h2, h3⟩ => by
                            rw [feedO_yes HF.out her hn ⟨rfl, Hv.out⟩] at h1 h2
                            exact ⟨h1, .inl ⟨rfl, feedW_frame h2, Hmn.out⟩, h3⟩)⟩
                        · have hv2 : ((sl : Int) != (sm : Int)) = true := by simp; omega
                          have Hv : Hid (¬ sl = Bm.sumOf (all ++ [x])) := Lib.hid (by rw [← Hsm.out]; exact hv)
                          clear hv
                          go_wp2_with fail
                          go_quiet ((go_at_call 17; exact quiet_leftF (Hof.out _)))
                          go_wp2
                          go_meet
                          exact ⟨all ++ [x], rest ++ [x], 4, many + 1, Bm.zfr, false, by rw [Has.out], by rw [Hrs.out], rfl, congrArg (Value.int .i64) (by simp), rfl, Hq.out, Htx1, HWR6, HBR6, Lib.hid (below_drewN HB6.out _), Lib.hid (by intro y hy; cases hy), Lib.hid (fun W hW => (Hfd.out W hW).mono fun e w' ⟨h1, h2, h3⟩ => by
                            rw [feedO_no HF.out her hn (fun h => Hv.out h.2)] at h1 h2
                            exact ⟨h1, .inr ⟨by decide, by rw [Hmn.out]; exact feedW_bad (by decide) h2⟩, h3⟩)⟩
                  · have herI : ((er : Int) != 0) = true := by simp; omega
                    go_wp2
                    go_meet
                    exact ⟨all ++ [x], rest ++ [x], er, many + 1, Bm.zfr, false, by rw [Has.out], by rw [Hrs.out], rfl, congrArg (Value.int .i64) (by simp), rfl, Hq.out, Htx1, HWR6, HBR6, HB6, Lib.hid (by intro y hy; cases hy), Lib.hid (fun W hW => (Hfd.out W hW).mono fun e w' ⟨h1, h2, h3⟩ => by
                      rw [feedO_bad HF.out her] at h1 h2
                      exact ⟨h1, .inr ⟨her, by rw [Hmn.out]; exact feedW_bad her h2⟩, h3⟩)⟩
                · have hbI : ((bad : Int) == 0) = false := by simp; omega
                  have hce : CuE wr c bad many := by
                    rcases HI0.out with ⟨h1, _⟩ | ⟨_, h2⟩
                    · exact absurd h1 hbad
                    · exact h2
                  have Hfeed : Hid (∀ W, W.heap[c]? = wr.heap[c]? → Calls Try.prog 19 #[.pointer (some ⟨c, 0, none⟩), ppB x sl sd] W fun e w' => e = .returned (feedV (Bm.zfr, false, bad)) ∧ FsI w' c all rest bad many ∧ W.grownBy w' (some c)) := Lib.hid (fun W hW =>
                    (frfeed_err c x sl bad many sd W (hce.keep hW)).mono fun e w' ⟨h1, h2, h3⟩ => ⟨h1, .inr ⟨hbad, h2⟩, grown_below h3 (some c)⟩)
                  clear hce hbad
                  go_wp2
                  go_meet
                  exact ⟨all, rest, bad, many, Bm.zfr, false, rfl, rfl, rfl, rfl, rfl, by omega, Lib.hid ⟨HTx.out.1, Hs2.out.1, HTx.out.2.2.1, by have := HTx.out.2.2.2.1; omega, Hs2.out.2, by have := HTx.out.2.2.2.2.2; omega⟩, HWR3, HBR3, HB3, Lib.hid (by intro y hy; cases hy), Hfeed⟩
              case rest =>
                obtain ⟨all', rest', bad', many', f, is, rfl, rfl, rfl, rfl, rfl, hm', HTx', HWR4, HBR4, HB4, Hf4, Hfeed⟩ := hcut
                have hcw : wc.heap[c]? = wr.heap[c]? := HB4.out.block c Hcl2.out
                have Hcall := Lib.hid (Hfeed.out wc hcw)
                have hrc : ∃ C t, Row wc c t C ∧ 30 ≠ t := by
                  have h1 := HI0.out.keep hcw
                  rcases h1 with ⟨_, h2, _⟩ | ⟨_, h2⟩
                  · obtain ⟨C, h3⟩ := h2.row
                    exact ⟨C, _, h3, by decide⟩
                  · obtain ⟨_, _, _, _, ⟨C, h3, _⟩, _⟩ := h2
                    exact ⟨C, _, h3, by decide⟩
                have b0 := HBR4.out.cell 0
                have b1 := HBR4.out.cell 1
                have b2 := HBR4.out.cell 2
                simp only [List.getElem?_cons_zero, List.getElem?_cons_succ] at b0 b1 b2
                have HD4 := Lib.hid (HDk.out.keep (HB4.out.block xB Hxl.out))
                have HBw : Hid (Below w.heap.size w wc) := Lib.hid (Hbel.out.trans (HB4.out.mono (by have := HB0.out; have := Hbel.out.size; omega)))
                have hWl := HWR4.out.lt
                clear HI3 HD3 HBR3 HWR3 HB3 e0 e1 v0 v1 y0 y1 Hfeed hcw hrc
                go_wp2_with fail
                unfold ppB at Hcall
                refine Hcall.out.mono ?_
                rintro e w7 ⟨rfl, hfs, hg7⟩
                have hne : c < B0 := Hcl2.out
                have HW7 := Lib.hid (HWR4.out.keep (hg7.block WB hWl (by intro e; injection e with e; have := HlW.out; omega)))
                have HD7 := Lib.hid (HD4.out.keep (hg7.block xB HD4.out.lt (by intro e; injection e with e; have := Hcx.out; have := HD4.out; exact absurd e (by omega))))
                have HB7 := Lib.hid (HBw.out.trans (below_grown hg7 Hcl.out HBw.out.size))
                have Hfs7 := Lib.hid hfs
                clear hfs hg7 Hcall HWR4 HBR4 HD4 HBw b0 b1 b2 HB4 hWl
                unfold feedV frV
                dsimp only
                unfold frL at HW7
                have hguard := fr_guard
                have hq2 : ∀ W, (binOp .neq 30 (.agg #[.int .i64 f.1, .string (strOf f.2)]) (.agg #[.int .i64 f.1, .string (strOf f.2)])).run Try.prog W = .ok (.bool false) W := fun W => by
                  have h1 := fr_neq f f W Hf4.out Hf4.out
                  rw [decide_eq_true rfl] at h1
                  exact h1
                have hal : Below w7.heap.size w7 (w7.alloc (.cells #[.int .i64 f.1, .string (strOf f.2)] 30)) := (Below.refl _ _).alloc (Nat.le_refl _) _
                have HW8 := Lib.hid (row_below HW7.out hal)
                have HF8 : Hid (Row (w7.alloc (.cells #[.int .i64 f.1, .string (strOf f.2)] 30)) w7.heap.size 30 [.int .i64 f.1, .string (strOf f.2)]) := Lib.hid (Row.new w7 _ _)
                have HD8 := Lib.hid (row_below HD7.out hal)
                have HB8 := Lib.hid (HB7.out.trans (hal.mono HB7.out.size))
                have Hfs8 := Lib.hid (Hfs7.out.keep (hal.block c Hfs7.out.lt))
                clear hal HW7 HD7 HB7 Hfs7
                have v0 := HW8.out.cell 0
                have v1 := HW8.out.cell 1
                have z0 := HF8.out.cell 0
                have z1 := HF8.out.cell 1
                simp only [List.getElem?_cons_zero, List.getElem?_cons_succ] at v0 v1 z0 z1
                have hbb : ((bad' : Int) != (bad' : Int)) = false := by simp
                have hmm : ((many' : Int) != (many' : Int)) = false := by simp
                have his : (is != is) = false := by cases is <;> rfl
                go_wp2_with fail
                refine (Hfs8.out.count).mono ?_
                rintro e w' ⟨rfl, rfl⟩
                go_wp2_with fail
                refine (Hfs8.out.err).mono ?_
                rintro e w' ⟨rfl, rfl⟩
                clear hbb hmm his
                go_wp2
                go_roundw
                case rel => exact ⟨q + 1, all', sent', rest', bad', many', by omega, by go_num, rfl, rfl, rfl, rfl, rfl, hm', HTx', Hfs8, HB8, HD8⟩
                case measure => simp [intOf]; omega
          · have hql2 : q = l.length := by omega
            have hqI : ¬ (q : Int) < (l.length : Int) := by omega
            go_wp2
            go_roundw
            case rel => exact ⟨k + 1, all, sent, rest, bad, many, by omega, by go_num, rfl, rfl, rfl, rfl, rfl, by omega, Lib.hid (HTx.out.le (by omega)), HI, Hbel⟩
            case measure => simp [intOf]; omega
    · have hkI : ¬ (k : Int) < (xs.length : Int) := by omega
      go_wp2
      go_ret
      exact ⟨rfl, Hbel.out⟩
set_option maxHeartbeats 1000000 in
set_option maxRecDepth 100000 in
theorem frfeeds_out (A : Option Addr) (n cap : Nat) (w : World) (hl : 10 < n) : Calls Try.prog 4 #[.slice A n cap] w fun e w' => e = .returned (.bool true) ∧ Below w.heap.size w w' := by
  have Haw := Lib.hid (frawake_any w)
  have hlI : (10 : Int) < (n : Int) := by omega
  go_enter Try.func4, Try.ntmps4
  go_wp2_with fail
  refine Haw.out.mono ?_
  rintro e w1 ⟨rfl, hb1⟩
  have HB1 := Lib.hid hb1
  clear hb1 Haw
  go_wp2
  go_ret
  exact ⟨rfl, HB1.out⟩
end Go.Proofs.Ytckmdeiahpijcaa
