/-
  EpochsRuns (layer 21): the law's function by its walk: true for any slice of deeds. No condition beyond each theorem's premises.
-/
import Derived.Test.YtdaobbhgmjdooaaIk
import Derived.Test.YtdaobbhgmjdooaaIv
import Derived.Test.YtdaobbhgmjdooaaIj
import Derived.Deep.DeepCutAuto
namespace Go.Proofs.Ytdaobbhgmjdooaa
open Go.RowKit

/-- What is held of all that ever were, after k deeds. -/
def RJ (R : List Bm.Rc) (k : Nat) : Prop := Bm.lastT R = true ∧ R.length ≤ k ∧ ∀ r ∈ R, r.h ≤ k
theorem RJ.nil : RJ [] 0 := ⟨rfl, Nat.le_refl _, fun r hr => by cases hr⟩
theorem RJ.mono {R : List Bm.Rc} {k : Nat} (h : RJ R k) : RJ R (k + 1) := ⟨h.1, Nat.le_succ_of_le h.2.1, fun r hr => Nat.le_succ_of_le (h.2.2 r hr)⟩
theorem RJ.set_ {R : List Bm.Rc} {k : Nat} (h : RJ R k) (i n : Nat) (hi : i < R.length) (hth : R[i].th = true) (hn : n ≤ k + 1) : RJ (R.set i ⟨R[i].t, true, n⟩) (k + 1) :=
  ⟨by rw [Bm.lastT_set R i _ hi hth.symm]; exact h.1, by rw [List.length_set]; exact Nat.le_succ_of_le h.2.1, fun r hr => by
    rcases List.mem_or_eq_of_mem_set hr with h6 | rfl
    · exact Nat.le_succ_of_le (h.2.2 r h6)
    · exact hn⟩
theorem RJ.add {R : List Bm.Rc} {k : Nat} (h : RJ R k) (t : ByteArray) : RJ (Bm.addR t R).2.2 (k + 1) := by
  refine ⟨(Bm.add_agree t R h.1).2.2.2, ?_⟩
  unfold Bm.addR
  split
  · exact h.mono.2
  · split
    · cases hd : Bm.dropR R with
      | none => exact h.mono.2
      | some R2 =>
        obtain ⟨h1, _, h3⟩ := Bm.dropR_keeps hd h.1
        refine ⟨by show (R2 ++ [_]).length ≤ _; rw [List.length_append, List.length_singleton, h1]; have := h.2.1; omega, fun r hr => ?_⟩
        rcases List.mem_append.1 hr with h6 | h6
        · obtain ⟨s, hs, _, h7⟩ := h3 r h6
          rw [h7]
          exact Nat.le_succ_of_le (h.2.2 s hs)
        · rw [List.mem_singleton.1 h6]; exact Nat.zero_le _
    · refine ⟨by show (R ++ [_]).length ≤ _; rw [List.length_append, List.length_singleton]; have := h.2.1; omega, fun r hr => ?_⟩
      rcases List.mem_append.1 hr with h6 | h6
      · exact Nat.le_succ_of_le (h.2.2 r h6)
      · rw [List.mem_singleton.1 h6]; exact Nat.zero_le _
/-- The law's state: the program's Store, the reference's. -/
structure EJ (w : World) (b p base k : Nat) (R : List Bm.Rc) : Prop where
  sg : SG w b k (Bm.dlF 0 R)
  rs : RS w p base R
  rj : RJ R k
  bp : b < p
theorem EJ.below {w w' : World} {b p base k : Nat} {R : List Bm.Rc} (h : EJ w b p base k R) (hb : Below w.heap.size w w') : EJ w' b p base k R := ⟨h.sg.below hb, h.rs.below hb, h.rj, h.bp⟩
theorem EJ.mono {w : World} {b p base k : Nat} {R : List Bm.Rc} (h : EJ w b p base k R) : EJ w b p base (k + 1) R := ⟨h.sg.mono (Nat.le_succ k), h.rs, h.rj.mono, h.bp⟩
theorem SP.sg {w : World} {b m : Nat} {l : List Bm.Dic} (h : SP w (some ⟨b, 0, none⟩) m l) : SG w b m l := by
  rcases h with ⟨h1, _⟩ | ⟨b2, h1, h2⟩
  · cases h1
  · injection h1 with h1
    injection h1 with h1
    subst h1
    exact h2
theorem cell_far {w : World} {g i : Nat} (v : Value) (q : Addr) (h : q.block ≠ g) : (w.setCell ⟨g, i, none⟩ v).cell? q = w.cell? q := World.cell?_of_block (Below.heap_setCell w ⟨g, i, none⟩ v q.block h)
/-- The reference's own numbers, to be read and written. -/
theorem RS.held {w : World} {p base : Nat} {R : List Bm.Rc} (h : RS w p base R) (i : Nat) (hi : i < R.length) (hth : R[i].th = true) :
    ∃ gH cH, gH ≠ p ∧ base ≤ gH ∧ OwnT w gH ∧ w.cell? ⟨p, 2, none⟩ = some (.slice (some ⟨gH, 0, none⟩) R.length cH) ∧ w.cell? ⟨gH, i, none⟩ = some (.int .i64 (R[i].h : Int)) ∧ w.frozen? ⟨gH, i, none⟩ = false ∧
      ∀ n : Nat, RS (w.setCell ⟨gH, i, none⟩ (.int .i64 (n : Int))) p base (R.set i ⟨R[i].t, true, n⟩) ∧ KeptE base p w (w.setCell ⟨gH, i, none⟩ (.int .i64 (n : Int))) := by
  obtain ⟨vT, vB, vH, hV⟩ := h
  have hlH : (R.map (·.h)).length = R.length := List.length_map ..
  have hoH := hV.oH
  rw [hlH] at hoH
  obtain ⟨gH, cH, rfl, hb, _⟩ := own_form hoH (by omega)
  have hc := hoH.cellAt i (by omega)
  have hf := hoH.frozenAt i
  rw [i64s_get? _ i (by rw [hlH]; exact hi), List.getElem_map] at hc
  have ho := own_ownT hoH (Or.inr (Or.inr rfl)) gH rfl
  refine ⟨gH, cH, fun e => by have := hV.lt; omega, hb, ho.2, hV.row.cell 2, hc, hf, fun n => ?_⟩
  obtain ⟨h1, h2⟩ := RV.setH (t := n) (j := i) hlH hV
  refine ⟨⟨vT, vB, .slice (some ⟨gH, 0, none⟩) R.length cH, ?_⟩, h2⟩
  have e1 : (R.set i ⟨R[i].t, true, n⟩).map (·.t) = R.map (·.t) := by
    rw [List.map_set]
    have : R[i].t = (R.map (·.t))[i]'(by rw [List.length_map]; exact hi) := by rw [List.getElem_map]
    show (R.map (·.t)).set i R[i].t = _
    rw [this, List.set_getElem_self]
  have e2 : (R.set i ⟨R[i].t, true, n⟩).map (·.th) = R.map (·.th) := by
    rw [List.map_set]
    have : true = (R.map (·.th))[i]'(by rw [List.length_map]; exact hi) := by rw [List.getElem_map, hth]
    show (R.map (·.th)).set i true = _
    rw [this, List.set_getElem_self]
  have e3 : (R.set i ⟨R[i].t, true, n⟩).map (·.h) = (R.map (·.h)).set i n := by rw [List.map_set]
  rw [e1, e2, e3]
  exact h1
theorem KeptE.drew {base p : Nat} {w w' : World} (h : KeptE base p w w') : KeptE base p w w'.drew := ⟨h.os, h.tape, h.output, h.size, h.block⟩
/-- The law's state behind a write to the program's Store. -/
theorem EJ.step {w w' : World} {b p base k : Nat} {R R2 : List Bm.Rc} (h : EJ w b p base k R) (hs : SG w' b (k + 1) (Bm.dlF 0 R2)) (hr : RS w' p base R2) (hj : RJ R2 (k + 1)) : EJ w' b p base (k + 1) R2 := ⟨hs, hr, hj, h.bp⟩
/-- The reference's texts and numbers, to be read. -/
theorem RS.seen {w : World} {p base : Nat} {R : List Bm.Rc} (h : RS w p base R) (i : Nat) (hi : i < R.length) :
    ∃ gT cT gH cH, w.cell? ⟨p, 0, none⟩ = some (.slice (some ⟨gT, 0, none⟩) R.length cT) ∧ w.cell? ⟨gT, i, none⟩ = some (.string R[i].t) ∧ w.cell? ⟨p, 2, none⟩ = some (.slice (some ⟨gH, 0, none⟩) R.length cH) ∧ w.cell? ⟨gH, i, none⟩ = some (.int .i64 (R[i].h : Int)) := by
  obtain ⟨vT, vB, vH, hV⟩ := h
  have hlT : (R.map (·.t)).length = R.length := List.length_map ..
  have hlH : (R.map (·.h)).length = R.length := List.length_map ..
  have hoT := hV.oT
  have hoH := hV.oH
  rw [hlT] at hoT
  rw [hlH] at hoH
  obtain ⟨gT, cT, rfl, _, _⟩ := own_form hoT (by omega)
  obtain ⟨gH, cH, rfl, _, _⟩ := own_form hoH (by omega)
  have h1 := hoT.cellAt i (by omega)
  have h2 := hoH.cellAt i (by omega)
  rw [strC_get? _ i (by rw [hlT]; exact hi), List.getElem_map] at h1
  rw [i64s_get? _ i (by rw [hlH]; exact hi), List.getElem_map] at h2
  exact ⟨gT, cT, gH, cH, hV.row.cell 0, h1, hV.row.cell 2, h2⟩
theorem RS.texts {w : World} {p base : Nat} {R : List Bm.Rc} (h : RS w p base R) : ∃ A c, w.cell? ⟨p, 0, none⟩ = some (.slice A R.length c) ∧ p < w.heap.size := by
  obtain ⟨vT, vB, vH, hV⟩ := h
  have hlT : (R.map (·.t)).length = R.length := List.length_map ..
  have hoT := hV.oT
  rw [hlT] at hoT
  obtain ⟨A, c, rfl, _⟩ := own_reads hoT
  exact ⟨A, c, hV.row.cell 0, hV.row.lt⟩
theorem EJ.drewN {w : World} {b p base k : Nat} {R : List Bm.Rc} (h : EJ w b p base k R) (q : Nat) : EJ (w.drewN q) b p base k R := ⟨h.sg.keep rfl, h.rs.drewN q, h.rj, h.bp⟩
/-- A call that draws alone. -/
theorem draws_below {P : Program} {f : FuncId} {args : Array Value} {w : World} {v : Value} (h : Calls P f args w fun e w' => e = .returned v ∧ ∃ q, w' = w.drewN q) : Calls P f args w fun e w' => e = .returned v ∧ Below w.heap.size w w' :=
  h.mono fun e w' ⟨h1, q, h2⟩ => ⟨h1, by subst h2; exact ⟨rfl, rfl, rfl, Nat.le_refl _, fun _ _ => rfl⟩⟩
theorem eheld_at (b m : Nat) (l : List Bm.Dic) (x : Int) (v : Nat) (w : World) (h : SG w b m l) (hv : hdD x l = v) :
    Calls Try.prog 14 #[.pointer (some ⟨b, 0, none⟩), .int .i64 x] w fun e w' => e = .returned (.int .i64 (v : Int)) ∧ Below w.heap.size w w' := by
  subst hv
  exact draws_below (eheld_any _ m l x w h.toP)
theorem elast_at (b m : Nat) (l : List Bm.Dic) (v : Nat) (w : World) (h : SG w b m l) (hv : Bm.lastD l = v) :
    Calls Try.prog 15 #[.pointer (some ⟨b, 0, none⟩)] w fun e w' => e = .returned (.int .i64 (v : Int)) ∧ Below w.heap.size w w' := by
  subst hv
  exact draws_below (elast_any _ m l w h.toP)
theorem etext_at (b m : Nat) (l : List Bm.Dic) (x : Int) (t : ByteArray) (r : Bool) (w : World) (h : SG w b m l) (ht : txD x l = t) (hr : isD x l = r) :
    Calls Try.prog 13 #[.pointer (some ⟨b, 0, none⟩), .int .i64 x] w fun e w' => e = .returned (.tuple #[.string t, .bool r]) ∧ Below w.heap.size w w' := by
  subst ht hr
  exact draws_below (etext_any _ m l x w h.toP)
theorem eall_at (b m : Nat) (R : List Bm.Rc) (w : World) (h : SG w b m (Bm.dlF 0 R)) :
    Calls Try.prog 17 #[.pointer (some ⟨b, 0, none⟩)] w fun e w' => ∃ g, e = .returned (.slice (some ⟨g, 0, none⟩) (epR R).length (epR R).length) ∧ (∀ W', Below w'.heap.size w' W' → Reads W' (some ⟨g, 0, none⟩) (i64s (epR R))) ∧ Below w.heap.size w w' :=
  (eall_any _ m (Bm.dlF 0 R) w h.toP).mono fun _ _ ⟨g, h1, _, h3, h4⟩ => ⟨g, by rw [h1, epR, List.length_map], fun _ hb => reads_on (row_reads h3) hb, h4⟩
theorem erall_at (p base : Nat) (R : List Bm.Rc) (w : World) (hR : R.length ≤ 1000000) (h : RS w p base R) :
    Calls Try.prog 18 #[.pointer (some ⟨p, 0, none⟩)] w fun e w' => ∃ A c, e = .returned (.slice A (epR R).length c) ∧ (∀ W', Below w'.heap.size w' W' → Reads W' A (i64s (epR R))) ∧ Below w.heap.size w w' :=
  (erall_any p base R w hR h).mono fun _ _ ⟨A, c, h1, h3, h4⟩ => ⟨A, c, h1, fun _ hb => reads_on h3 hb, h4⟩
theorem epR_small (R : List Bm.Rc) (h : R.length ≤ 1000) : (epR R).length ≤ 1000 := by
  have h5 := cnR_le R R.length
  rw [List.take_length] at h5
  rw [epR_len]
  omega
set_option maxHeartbeats 400000 in
set_option maxRecDepth 100000 in
theorem eruns_out (A : Option Addr) (L c : Nat) (w : World) (hl : 80 < L) (hL : L ≤ 9223372036854775807) :
    Calls Try.prog 3 #[.slice A L c] w fun e w' => e = .returned (.bool true) ∧ Below w.heap.size w w' := by
  have Haw := Lib.hid (epawake_any w)
  have hd : decide (80 < (L : Int)) = true := decide_eq_true (by omega)
  go_enter Try.func3, Try.ntmps3
  go_wp2_with fail
  refine Haw.out.mono ?_
  rintro e w1 ⟨rfl, hb1⟩
  have HB1 := Lib.hid hb1
  clear hb1
  go_wp2
  go_ret
  exact ⟨rfl, HB1.out⟩
set_option maxHeartbeats 2000000 in
set_option maxRecDepth 100000 in
theorem eruns_in (A : Option Addr) (c : Nat) (xs : List Ded) (w : World) (hl : xs.length ≤ 80) (hx : ArgDd w A xs.length c xs) :
    Calls Try.prog 3 #[.slice A xs.length c] w fun e w' => e = .returned (.bool true) ∧ Below w.heap.size w w' := by
  have Haw := Lib.hid (epawake_any w)
  have hd : decide (80 < (xs.length : Int)) = false := decide_eq_false (by omega)
  have Hok := Lib.hid hx.2.1
  have Hcell := Lib.hid hx.2.2.1
  clear hx
  go_enter Try.func3, Try.ntmps3
  go_wp2_with fail
  refine Haw.out.mono ?_
  rintro e w1 ⟨rfl, hb1⟩
  have HB1 := Lib.hid hb1
  have Hnew := Lib.hid (enew_any w1)
  clear hb1 Haw
  go_wp2_with fail
  refine Hnew.out.mono ?_
  rintro e w2 ⟨b, rfl, hS2, hb, hb2⟩
  have HB2 := Lib.hid (HB1.out.trans (hb2.mono HB1.out.size))
  have Hb := Lib.hid (Nat.le_trans HB1.out.size hb)
  have HS2 := Lib.hid hS2
  clear hS2 hb2 hb Hnew HB1
  go_upto_region 6 with fail
  have HE3 : Hid (EJ (w2.alloc (.cells #[.slice none 0 0, .slice none 0 0, .slice none 0 0] 31)) b w2.heap.size (w2.heap.size + 1) 0 []) := Lib.hid ⟨HS2.out.below ((Below.refl _ _).alloc (Nat.le_refl _) _), RS.new w2, RJ.nil, HS2.out.lt⟩
  have HB3 : Hid (Below w.heap.size w (w2.alloc (.cells #[.slice none 0 0, .slice none 0 0, .slice none 0 0] 31))) := Lib.hid (HB2.out.alloc HB2.out.size _)
  have Hp : Hid (w.heap.size ≤ w2.heap.size) := Lib.hid HB2.out.size
  clear HS2 HB2
  generalize w2.alloc (.cells #[.slice none 0 0, .slice none 0 0, .slice none 0 0] 31) = w3 at *
  generalize hbs : w2.heap.size + 1 = base at *
  generalize w2.heap.size = p at *
  have Hbs := Lib.hid hbs
  clear hbs hd
  go_wp2
  go_loopw [6, 7, 8, 9, 10, 11, 12, 13, 14, 15, 16, 27] (fun _ _ _ _ _ _ _ _ _ _ _ i wr => ∃ k : Nat, k ≤ xs.length ∧ i = .int .i64 (k : Int) ∧ Hid (∃ R, EJ wr b p base k R) ∧ Hid (Below w.heap.size w wr)) (fun _ _ _ _ _ _ _ _ _ _ _ i _ => xs.length - (intOf i).toNat)
  case atStart => exact ⟨0, Nat.zero_le _, rfl, Lib.hid ⟨[], HE3.out⟩, HB3⟩
  case round =>
    obtain ⟨k, hk, rfl, hex, hbel⟩ := hrel
    obtain ⟨R, hE⟩ := hex.out
    have HE := Lib.hid hE
    clear HE3 HB3 hex hE
    by_cases hkl : k < xs.length
    · obtain ⟨g, off, rfl, hg, hc⟩ := Hcell.out (by omega)
      obtain ⟨q0, q1, q2⟩ := (hc k hkl).below hbel.out hg
      obtain ⟨o0, o1⟩ := Hok.out xs[k] (List.getElem_mem hkl)
      have hkI : (k : Int) < (xs.length : Int) := by omega
      have Hk80 : Hid (k ≤ 80) := Lib.hid (by omega)
      clear hc
      generalize xs[k] = dd at *
      obtain ⟨kd, ep, tx⟩ := dd
      simp only at q0 q1 q2 o0 o1
      go_upto_region 9 with fail
      have hdr := Row.new wr 33 [.int .u8 (kd : Int), .int .i64 ep, .string tx]
      have hda : Below wr.heap.size wr (wr.alloc (.cells #[.int .u8 (kd : Int), .int .i64 ep, .string tx] 33)) := (Below.refl _ _).alloc (Nat.le_refl _) _
      have HEA := Lib.hid (HE.out.below hda)
      have HBA := Lib.hid (hbel.out.trans (hda.mono hbel.out.size))
      have HD := Lib.hid (show Row (wr.alloc (.cells #[.int .u8 (kd : Int), .int .i64 ep, .string tx] 33)) wr.heap.size 33 [.int .u8 (kd : Int), .int .i64 ep, .string tx] from hdr)
      have Hbd := Lib.hid (show b < wr.heap.size ∧ p < wr.heap.size from ⟨HE.out.sg.lt, by obtain ⟨_, _, _, h1⟩ := HE.out.rs; exact h1.row.lt⟩)
      have Hpb := Lib.hid (show p < base by obtain ⟨_, _, _, h1⟩ := HE.out.rs; exact h1.lt)
      clear hdr hda HE hbel q0 q1 q2 hg Hcell Hok
      generalize wr.alloc (.cells #[.int .u8 (kd : Int), .int .i64 ep, .string tx] 33) = wA at *
      generalize wr.heap.size = dB at *
      have e0 := HD.out.cell 0
      have e1 := HD.out.cell 1
      have e2 := HD.out.cell 2
      simp only [List.getElem?_cons_zero, List.getElem?_cons_succ] at e0 e1 e2
      by_cases ht : 300 < tx.size
      · have hdt : decide (300 < (tx.size : Int)) = true := decide_eq_true (by omega)
        go_wp2
        go_ret
        exact ⟨rfl, HBA.out⟩
      have hdt : decide (300 < (tx.size : Int)) = false := decide_eq_false (by omega)
      have Htx : Hid (tx.size ≤ 300) := Lib.hid (by omega)
      have Hha := Lib.hid (erhas_any p base R ep wA o1 (by have := HEA.out.rj.2.1; have := Hk80.out; omega) HEA.out.rs)
      clear ht
      go_wp2_with fail
      refine Hha.out.mono ?_
      rintro e w' ⟨rfl, rfl⟩
      clear Hha hdt
      go_upto_region 12 with fail
      go_cut [41] from 39 to 41 (fun s41 wx => wx = wA ∧ (s41 = .int .u8 0 ∨ s41 = .int .u8 1 ∨ s41 = .int .u8 2))
      case first =>
        have hm : (kd : Int) % 3 = 0 ∨ (kd : Int) % 3 = 1 ∨ (kd : Int) % 3 = 2 := by omega
        go_wp2
        go_meet
        rcases hm with h | h | h
        · exact ⟨rfl, Or.inl (by rw [← h])⟩
        · exact ⟨rfl, Or.inr (Or.inl (by rw [← h]))⟩
        · exact ⟨rfl, Or.inr (Or.inr (by rw [← h]))⟩
      case rest =>
      obtain ⟨hwc, h41⟩ := hcut
      have hwc2 := hwc.symm
      subst hwc2
      apply_assumption
      go_cut [7] (fun _ wx => Hid (∃ R2, EJ wx b p base (k + 1) R2) ∧ Hid (Below w.heap.size w wx) ∧ Hid (Row wx dB 33 [.int .u8 (kd : Int), .int .i64 ep, .string tx]))
      case first =>
        rcases h41 with rfl | rfl | rfl
        · have hag := Bm.add_agree tx R HEA.out.rj.1
          have hadd := eadd_any b k (Bm.dlF 0 R) tx wA (by have := Hk80.out; omega) HEA.out.sg
          rw [hag.1, hag.2.1, hag.2.2.1] at hadd
          have HJ := Lib.hid (HEA.out.rj.add tx)
          have Hrad := Lib.hid (fun W hW => eradd_any p base R tx W (by have := HEA.out.rj.2.1; have := Hk80.out; omega) hW)
          have Hadd := Lib.hid hadd
          clear hag hadd
          generalize Bm.addR tx R = X at *
          obtain ⟨n, er, R3⟩ := X
          simp only at Hadd HJ Hrad
          go_wp2_with fail
          refine Hadd.out.mono ?_
          rintro e w4 ⟨rfl, hS4, hg4⟩
          have HS4 := Lib.hid hS4
          have HR4 := Lib.hid (HEA.out.rs.grown hg4 HEA.out.bp)
          have HD4 := Lib.hid (HD.out.keep (hg4.block dB HD.out.lt (fun e => by injection e with e; have := Hbd.out.1; omega)))
          have HB4 := Lib.hid (HBA.out.trans (below_grown hg4 Hb.out HBA.out.size))
          have k1 := HD4.out.cell 1
          have k2 := HD4.out.cell 2
          simp only [List.getElem?_cons_zero, List.getElem?_cons_succ] at k1 k2
          clear hS4 hg4 Hadd e0 e1 e2
          go_wp2_with fail
          refine (Hrad.out w4 HR4.out).mono ?_
          rintro e w5 ⟨rfl, hR5, hK5⟩
          have HE5 := Lib.hid (HEA.out.step (HS4.out.keep (hK5.block b HS4.out.lt (by have := HEA.out.bp; omega) (Or.inl (by have := HEA.out.bp; have := Hpb.out; omega)))) hR5 HJ.out)
          have HD5 := Lib.hid (hK5.row HD4.out (by have := Hbd.out.2; omega) (by decide) (by decide) (by decide))
          have HB5 := Lib.hid (HB4.out.trans ((hK5.below Hpb.out (by have := HR4.out; obtain ⟨_, _, _, h1⟩ := this; exact Nat.le_of_lt h1.row.lt)).mono Hp.out))
          have hn1 : ((n : Int) == (n : Int)) = true := beq_self_eq_true _
          have hn2 : ((er : Int) == (er : Int)) = true := beq_self_eq_true _
          clear hR5 hK5 Hrad k1 k2 HS4 HR4 HD4 HB4 HJ
          go_wp2
          go_meet
          exact ⟨Lib.hid ⟨R3, HE5.out⟩, HB5, HD5⟩
        · have hho := ehold_any (some ⟨b, 0, none⟩) k (Bm.dlF 0 R) ep wA (by have := Hk80.out; omega) HEA.out.sg.toP
          have hdl := Bm.dl_has R ep (· + 1)
          cases hhas : Bm.hasR ep R with
          | false =>
            obtain ⟨hg1, hu1⟩ := hdl.2 hhas
            have his : isD ep (Bm.dlF 0 R) = false := by unfold isD; rw [hg1]; rfl
            rw [his, hu1] at hho
            have Hho := Lib.hid hho
            clear hho hdl hg1 hu1 his hhas
            go_wp2_with fail
            refine Hho.out.mono ?_
            rintro e w4 ⟨rfl, hS4, hg4⟩
            have HE5 := Lib.hid (HEA.out.step hS4.sg (HEA.out.rs.grown (b := b) hg4 HEA.out.bp) HEA.out.rj.mono)
            have HD5 := Lib.hid (HD.out.keep (hg4.block dB HD.out.lt (fun e => by injection e with e; have := Hbd.out.1; have e2 : b = dB := e.symm; omega)))
            have HB5 := Lib.hid (HBA.out.trans (below_grown (b := b) hg4 Hb.out HBA.out.size))
            clear hS4 hg4 Hho e0 e1 e2
            go_wp2
            go_meet
            exact ⟨Lib.hid ⟨R, HE5.out⟩, HB5, HD5⟩
          | true =>
            obtain ⟨i, hi, rfl, hth, hg1, hu1⟩ := hdl.1 hhas
            have his : isD ((i : Int) + 1) (Bm.dlF 0 R) = true := by unfold isD; rw [hg1]; rfl
            rw [his, hu1] at hho
            have Hho := Lib.hid hho
            have HJ := Lib.hid (HEA.out.rj.set_ i (R[i].h + 1) hi hth (by have := HEA.out.rj.2.2 _ (List.getElem_mem hi); omega))
            have hh80 : R[i].h ≤ 80 := by have := HEA.out.rj.2.2 _ (List.getElem_mem hi); have := Hk80.out; omega
            have Hth := Lib.hid hth
            clear hho hdl hg1 hu1 his hhas hth
            go_wp2_with fail
            refine Hho.out.mono ?_
            rintro e w4 ⟨rfl, hS4, hg4⟩
            have HS4 := Lib.hid hS4.sg
            have HR4 := Lib.hid (HEA.out.rs.grown (b := b) hg4 HEA.out.bp)
            have HD4 := Lib.hid (HD.out.keep (hg4.block dB HD.out.lt (fun e => by injection e with e; have := Hbd.out.1; have e2 : b = dB := e.symm; omega)))
            have HB4 := Lib.hid (HBA.out.trans (below_grown (b := b) hg4 Hb.out HBA.out.size))
            obtain ⟨gH, cH, gp, gb, gO, x2, xh, xf, hset⟩ := HR4.out.held i hi Hth.out
            have k1 := HD4.out.cell 1
            simp only [List.getElem?_cons_zero, List.getElem?_cons_succ] at k1
            have Hset := Lib.hid (hset (R[i].h + 1))
            have Hgp := Lib.hid gp
            have Hgb := Lib.hid gb
            have Hgd : Hid (dB ≠ gH) := Lib.hid (fun e => by
              obtain ⟨t, cs, fz, h1, h2⟩ := gO
              have h3 := HD4.out
              unfold Row at h3
              rw [e, h1] at h3
              simp only [Option.some.injEq, Obj.cells.injEq] at h3
              rw [h3.2.1] at h2
              revert h2
              decide)
            have Hx2 := Lib.hid x2
            have Hk1 := Lib.hid k1
            have hiI : (i : Int) < (R.length : Int) := by omega
            have hw0 : IntKind.i64.wrap (i : Int) = (i : Int) := IntWalk.i64_in _ (by omega)
            have hR80 : R.length ≤ 1000 := by have := HEA.out.rj.2.1; have := Hk80.out; omega
            clear hS4 hg4 Hho e0 e1 e2 hset gp gb gO x2 k1
            simp only [Int.natCast_add, Int.cast_ofNat_Int] at Hset
            generalize R[i].h = hv at *
            have hw1 : IntKind.i64.wrap ((hv : Int) + 1) = (hv : Int) + 1 := IntWalk.i64_in _ (by omega)
            go_wp2_with fail
            refine wp_region_held_drew (S := (fun W : World => W.cell? ⟨p, 2, none⟩ = some (.slice (some ⟨gH, 0, none⟩) R.length cH) ∧ W.cell? ⟨dB, 1, none⟩ = some (.int .i64 ((i : Int) + 1)))) (by kernel_rfl) (by exact ⟨Hx2.out, Hk1.out⟩) (fun hHeld => ?_)
            refine wpAnyH_take (i := 0) (oi := { dst := some 75, op := Go.Op.move (Go.Operand.tmp 4), type := 26, pos := "law.go:65", after := #[], guard := none }) (v := ?_) rfl (by kernel_rfl) (by kernel_rfl) (by kernel_rfl) (fun _ _ _ h => h) (Or.inl ⟨by rfl, ?_⟩) (by assumption) ?_
            rotate_left
            · (intro w hSw; (try dsimp only at hSw); go_simp; (try with_reducible rfl))
            try simp only [Act.put, List.setIfInBounds_toArray, List.set_cons_zero, List.set_cons_succ]
            refine wpAnyH_take (i := 1) (oi := { dst := some 76, op := Go.Op.nilCheck (Go.Operand.tmp 75), type := 0, pos := "law.go:65", after := #[{ on := 0, ground := Go.Ground.data }], guard := none }) (v := ?_) rfl (by kernel_rfl) (by kernel_rfl) (by kernel_rfl) (fun _ _ _ h => h) (Or.inl ⟨by rfl, ?_⟩) (by assumption) ?_
            rotate_left
            · (intro w hSw; (try dsimp only at hSw); go_simp; (try with_reducible rfl))
            try simp only [Act.put, List.setIfInBounds_toArray, List.set_cons_zero, List.set_cons_succ]
            refine wpAnyH_take (i := 2) (oi := { dst := some 77, op := Go.Op.fieldAddr 31 (Go.Operand.tmp 76) 2, type := 0, pos := "law.go:65", after := #[{ on := 1, ground := Go.Ground.data }], guard := none }) (v := ?_) rfl (by kernel_rfl) (by kernel_rfl) (by kernel_rfl) (fun _ _ _ h => h) (Or.inl ⟨by rfl, ?_⟩) (by assumption) ?_
            rotate_left
            · (intro w hSw; (try dsimp only at hSw); go_simp; (try with_reducible rfl))
            try simp only [Act.put, List.setIfInBounds_toArray, List.set_cons_zero, List.set_cons_succ]
            refine wpAnyH_take (i := 3) (oi := { dst := some 78, op := Go.Op.load 29 (Go.Operand.tmp 77), type := 29, pos := "law.go:65", after := #[{ on := 2, ground := Go.Ground.data }], guard := none }) (v := ?_) rfl (by kernel_rfl) (by kernel_rfl) (by kernel_rfl) (fun _ _ _ h => h) (Or.inl ⟨by rfl, ?_⟩) (by assumption) ?_
            rotate_left
            · (intro w hSw; (try dsimp only at hSw); go_simp; (try with_reducible rfl))
            try simp only [Act.put, List.setIfInBounds_toArray, List.set_cons_zero, List.set_cons_succ]
            refine wpAnyH_take (i := 4) (oi := { dst := some 79, op := Go.Op.fieldAddr 33 (Go.Operand.tmp 6) 1, type := 0, pos := "law.go:65", after := #[], guard := none }) (v := ?_) rfl (by kernel_rfl) (by kernel_rfl) (by kernel_rfl) (fun _ _ _ h => h) (Or.inl ⟨by rfl, ?_⟩) (by assumption) ?_
            rotate_left
            · (intro w hSw; (try dsimp only at hSw); go_simp; (try with_reducible rfl))
            try simp only [Act.put, List.setIfInBounds_toArray, List.set_cons_zero, List.set_cons_succ]
            refine wpAnyH_take (i := 5) (oi := { dst := some 80, op := Go.Op.load 3 (Go.Operand.tmp 79), type := 3, pos := "law.go:65", after := #[{ on := 4, ground := Go.Ground.data }], guard := none }) (v := ?_) rfl (by kernel_rfl) (by kernel_rfl) (by kernel_rfl) (fun _ _ _ h => h) (Or.inl ⟨by rfl, ?_⟩) (by assumption) ?_
            rotate_left
            · (intro w hSw; (try dsimp only at hSw); go_simp; (try with_reducible rfl))
            try simp only [Act.put, List.setIfInBounds_toArray, List.set_cons_zero, List.set_cons_succ]
            refine wpAnyH_take (i := 6) (oi := { dst := some 81, op := Go.Op.binOp Go.BinOp.sub 3 (Go.Operand.tmp 80) (Go.Operand.const (Go.Value.int Go.IntKind.i64 1)) 3, type := 3, pos := "law.go:65", after := #[{ on := 5, ground := Go.Ground.data }], guard := none }) (v := ?_) rfl (by kernel_rfl) (by kernel_rfl) (by kernel_rfl) (fun _ _ _ h => h) (Or.inl ⟨by rfl, ?_⟩) (by assumption) ?_
            rotate_left
            · (intro w hSw; (try dsimp only at hSw); go_simp; (try with_reducible rfl))
            try simp only [Act.put, List.setIfInBounds_toArray, List.set_cons_zero, List.set_cons_succ]
            refine wpAnyH_take (i := 7) (oi := { dst := some 82, op := Go.Op.indexAddr 29 (Go.Operand.tmp 78) (Go.Operand.tmp 81), type := 0, pos := "law.go:65", after := #[{ on := 3, ground := Go.Ground.data }, { on := 6, ground := Go.Ground.data }], guard := none }) (v := ?_) rfl (by kernel_rfl) (by kernel_rfl) (by kernel_rfl) (fun _ _ _ h => h) (Or.inl ⟨by rfl, ?_⟩) (by assumption) ?_
            rotate_left
            · (intro w hSw; (try dsimp only at hSw); go_simp; (try with_reducible rfl))
            try simp only [Act.put, List.setIfInBounds_toArray, List.set_cons_zero, List.set_cons_succ]
            refine wpAnyH_ready (rs := [8]) (by kernel_rfl) (by simp) ?_
            refine AllReadyH.cons (o := { dst := some 83, op := Go.Op.load 3 (Go.Operand.tmp 82), type := 3, pos := "law.go:65", after := #[{ on := 7, ground := Go.Ground.data }], guard := none }) rfl (fun K hK => ?_) AllReadyH.nil
            go_simp
            refine hK.out _ _ (by exact ⟨Hx2.out, Hk1.out⟩) (fun hHeld => ?_)
            clear hK K
            try simp only [Act.put, List.setIfInBounds_toArray, List.set_cons_zero, List.set_cons_succ]
            refine wpAnyH_take (i := 9) (oi := { dst := some 84, op := Go.Op.binOp Go.BinOp.add 3 (Go.Operand.tmp 83) (Go.Operand.const (Go.Value.int Go.IntKind.i64 1)) 3, type := 3, pos := "law.go:65", after := #[{ on := 8, ground := Go.Ground.data }], guard := none }) (v := ?_) rfl (by kernel_rfl) (by kernel_rfl) (by kernel_rfl) (fun _ _ _ h => h) (Or.inl ⟨by rfl, ?_⟩) (by assumption) ?_
            rotate_left
            · (intro w hSw; (try dsimp only at hSw); go_simp; (try with_reducible rfl))
            try simp only [Act.put, List.setIfInBounds_toArray, List.set_cons_zero, List.set_cons_succ]
            refine wpAnyH_take (i := 10) (oi := { dst := some 85, op := Go.Op.indexAddr 29 (Go.Operand.tmp 78) (Go.Operand.tmp 81), type := 0, pos := "law.go:65", after := #[{ on := 3, ground := Go.Ground.data }, { on := 6, ground := Go.Ground.data }, { on := 0, ground := Go.Ground.phase }, { on := 1, ground := Go.Ground.phase }, { on := 2, ground := Go.Ground.phase }, { on := 3, ground := Go.Ground.phase }, { on := 4, ground := Go.Ground.phase }, { on := 5, ground := Go.Ground.phase }, { on := 6, ground := Go.Ground.phase }, { on := 7, ground := Go.Ground.phase }, { on := 8, ground := Go.Ground.phase }, { on := 9, ground := Go.Ground.phase }], guard := none }) (v := ?_) rfl (by kernel_rfl) (by kernel_rfl) (by kernel_rfl) (fun _ _ _ h => h) (Or.inl ⟨by rfl, ?_⟩) (by assumption) ?_
            rotate_left
            · (intro w hSw; (try dsimp only at hSw); go_simp; (try with_reducible rfl))
            try simp only [Act.put, List.setIfInBounds_toArray, List.set_cons_zero, List.set_cons_succ]
            refine wpAnyH_ready (rs := [11]) (by kernel_rfl) (by simp) ?_
            refine AllReadyH.cons (o := { dst := none, op := Go.Op.store 3 (Go.Operand.tmp 85) (Go.Operand.tmp 84), type := 0, pos := "law.go:65", after := #[{ on := 10, ground := Go.Ground.data }, { on := 9, ground := Go.Ground.data }, { on := 0, ground := Go.Ground.phase }, { on := 1, ground := Go.Ground.phase }, { on := 2, ground := Go.Ground.phase }, { on := 3, ground := Go.Ground.phase }, { on := 4, ground := Go.Ground.phase }, { on := 5, ground := Go.Ground.phase }, { on := 6, ground := Go.Ground.phase }, { on := 7, ground := Go.Ground.phase }, { on := 8, ground := Go.Ground.phase }, { on := 9, ground := Go.Ground.phase }], guard := none }) rfl (fun K hK => ?_) AllReadyH.nil
            go_simp
            refine hK.out _ _ (by exact ⟨(cell_far _ _ (fun e => Hgp.out e.symm)).trans Hx2.out, (cell_far _ _ Hgd.out).trans Hk1.out⟩) (fun hHeld => ?_)
            clear hK K
            try simp only [Act.put, List.setIfInBounds_toArray, List.set_cons_zero, List.set_cons_succ]
            refine wpAnyH_done (by kernel_rfl) ?_ _
            have HK5 := Lib.hid (Hset.out.2.drew)
            have HR5 := Lib.hid (Hset.out.1.drewN 1)
            have HE5 := Lib.hid (HEA.out.step (HS4.out.keep (HK5.out.block b HS4.out.lt (by have := HEA.out.bp; omega) (Or.inl (by have := HEA.out.bp; have := Hpb.out; omega)))) HR5.out HJ.out)
            have HD5 := Lib.hid (HK5.out.row HD4.out (by have := Hbd.out.2; omega) (by decide) (by decide) (by decide))
            have HB5 := Lib.hid (HB4.out.trans ((HK5.out.below Hpb.out (by have := HR4.out; obtain ⟨_, _, _, h1⟩ := this; exact Nat.le_of_lt h1.row.lt)).mono Hp.out))
            go_wp2
            go_meet
            exact ⟨Lib.hid ⟨_, HE5.out⟩, HB5, HD5⟩
        · have hle := fun W hW => elet_any (some ⟨b, 0, none⟩) k (Bm.dlF 0 R) ep W (by have := Hk80.out; omega) hW
          have hdl := Bm.dl_has R ep (· - 1)
          cases hhas : Bm.hasR ep R with
          | false =>
            obtain ⟨hg1, hu1⟩ := hdl.2 hhas
            have his : hdD ep (Bm.dlF 0 R) = 0 := by unfold hdD; rw [hg1]; rfl
            rw [his, hu1] at hle
            have Hle := Lib.hid (fun W hW => show Calls Try.prog 12 _ W fun e w' => e = .returned (.bool false) ∧ GP W w' (some ⟨b, 0, none⟩) k (Bm.dlF 0 R) from hle W hW)
            clear hle hdl hg1 hu1 his hhas
            go_wp2_with fail
            go_quiet (fail)
            have HBn := Lib.hid (show Below w.heap.size w (wA.drewN nq) from ⟨HBA.out.os, HBA.out.tape, HBA.out.output, HBA.out.size, HBA.out.block⟩)
            have HEn := Lib.hid (show EJ (wA.drewN nq) b p base k R from ⟨HEA.out.sg.keep rfl, HEA.out.rs.drewN nq, HEA.out.rj, HEA.out.bp⟩)
            have HDn := Lib.hid (show Row (wA.drewN nq) dB 33 [.int .u8 (kd : Int), .int .i64 ep, .string tx] from HD.out)
            clear HBA HEA HD
            generalize wA.drewN nq = wN at *
            have k1 := HDn.out.cell 1
            simp only [List.getElem?_cons_zero, List.getElem?_cons_succ] at k1
            clear e0 e1 e2
            go_wp2_with fail
            refine (Hle.out wN HEn.out.sg.toP).mono ?_
            rintro e w4 ⟨rfl, hS4, hg4⟩
            have HE5 := Lib.hid (HEn.out.step (hS4.sg.mono (Nat.le_succ k)) (HEn.out.rs.grown (b := b) hg4 HEn.out.bp) HEn.out.rj.mono)
            have HD5 := Lib.hid (HDn.out.keep (hg4.block dB HDn.out.lt (fun e => by injection e with e; have := Hbd.out.1; have e2 : b = dB := e.symm; omega)))
            have HB5 := Lib.hid (HBn.out.trans (below_grown (b := b) hg4 Hb.out HBn.out.size))
            clear hS4 hg4 Hle k1
            go_wp2
            go_meet
            exact ⟨Lib.hid ⟨R, HE5.out⟩, HB5, HD5⟩
          | true =>
            obtain ⟨i, hi, rfl, hth, hg1, hu1⟩ := hdl.1 hhas
            have his : hdD ((i : Int) + 1) (Bm.dlF 0 R) = R[i].h := by unfold hdD; rw [hg1]; rfl
            rw [his, hu1] at hle
            have Hle := Lib.hid hle
            have HJ := Lib.hid (HEA.out.rj.set_ i (R[i].h - 1) hi hth (by have := HEA.out.rj.2.2 _ (List.getElem_mem hi); omega))
            have hh80 : R[i].h ≤ 80 := by have := HEA.out.rj.2.2 _ (List.getElem_mem hi); have := Hk80.out; omega
            have Hth := Lib.hid hth
            have Hself : Hid (R[i].h = 0 → R.set i ⟨R[i].t, true, R[i].h - 1⟩ = R) := Lib.hid fun e => by
              have : (⟨R[i].t, true, R[i].h - 1⟩ : Bm.Rc) = R[i] := by rw [e]; show _ = (⟨R[i].t, R[i].th, R[i].h⟩ : Bm.Rc); rw [e, hth]
              rw [this, List.set_getElem_self]
            obtain ⟨gH, cH, gp, gb, gO, x2, xh, xf, hset⟩ := HEA.out.rs.held i hi hth
            have Hset := Lib.hid (hset (R[i].h - 1))
            have Hx2 := Lib.hid x2
            have hiI : (i : Int) < (R.length : Int) := by omega
            have hw0 : IntKind.i64.wrap (i : Int) = (i : Int) := IntWalk.i64_in _ (by omega)
            have hR80 : R.length ≤ 1000 := by have := HEA.out.rj.2.1; have := Hk80.out; omega
            have Hxh := Lib.hid xh
            clear hle hdl hg1 hu1 his hhas hth hset
            by_cases hz : R[i].h = 0
            · have hS0 := Hself.out hz
              rw [hz] at Hle xh
              rw [hz] at hS0
              have Hle0 := Lib.hid (fun W (hW : SP W (some ⟨b, 0, none⟩) k (Bm.dlF 0 R)) => show Calls Try.prog 12 _ W fun e w' => e = .returned (.bool false) ∧ GP W w' (some ⟨b, 0, none⟩) k (Bm.dlF 0 R) by
                have h5 := Hle.out W hW
                rw [hS0] at h5
                exact h5)
              clear Hle hS0 Hself hz Hxh Hset HJ
              go_wp2_with fail
              go_quiet (fail)
              have HBn := Lib.hid (show Below w.heap.size w (wA.drewN nq) from ⟨HBA.out.os, HBA.out.tape, HBA.out.output, HBA.out.size, HBA.out.block⟩)
              have HEn := Lib.hid (show EJ (wA.drewN nq) b p base k R from ⟨HEA.out.sg.keep rfl, HEA.out.rs.drewN nq, HEA.out.rj, HEA.out.bp⟩)
              have HDn := Lib.hid (show Row (wA.drewN nq) dB 33 [.int .u8 (kd : Int), .int .i64 ((i : Int) + 1), .string tx] from HD.out)
              clear HBA HEA HD x2 xh xf Hx2
              generalize wA.drewN nq = wN at *
              have k1 := HDn.out.cell 1
              simp only [List.getElem?_cons_zero, List.getElem?_cons_succ] at k1
              clear e0 e1 e2
              go_wp2_with fail
              refine (Hle0.out wN HEn.out.sg.toP).mono ?_
              rintro e w4 ⟨rfl, hS4, hg4⟩
              have HE5 := Lib.hid (HEn.out.step (hS4.sg.mono (Nat.le_succ k)) (HEn.out.rs.grown (b := b) hg4 HEn.out.bp) HEn.out.rj.mono)
              have HD5 := Lib.hid (HDn.out.keep (hg4.block dB HDn.out.lt (fun e => by injection e with e; have := Hbd.out.1; have e2 : b = dB := e.symm; omega)))
              have HB5 := Lib.hid (HBn.out.trans (below_grown (b := b) hg4 Hb.out HBn.out.size))
              clear hS4 hg4 Hle0 k1
              go_wp2
              go_meet
              exact ⟨Lib.hid ⟨R, HE5.out⟩, HB5, HD5⟩
            · obtain ⟨hv, hvv⟩ : ∃ hv, R[i].h = hv + 1 := ⟨R[i].h - 1, by omega⟩
              rw [hvv] at Hle xh hh80 HJ
              rw [Nat.add_sub_cancel] at HJ
              have Hle0 := Lib.hid (fun W (hW : SP W (some ⟨b, 0, none⟩) k (Bm.dlF 0 R)) => show Calls Try.prog 12 _ W fun e w' => e = .returned (.bool true) ∧ GP W w' (some ⟨b, 0, none⟩) k (Bm.dlF 0 (R.set i ⟨R[i].t, true, hv⟩)) by
                have h5 := Hle.out W hW
                rw [decide_eq_true (show 0 < hv + 1 by omega), Nat.add_sub_cancel] at h5
                exact h5)
              have Hhv := Lib.hid hvv
              have hgt : decide ((0 : Int) < (hv : Int) + 1) = true := decide_eq_true (by omega)
              have hgt2 : decide (0 < hv + 1) = true := decide_eq_true (by omega)
              clear Hle Hself hz Hxh Hset hvv
              rw [Int.natCast_add] at xh
              have xh2 : wA.cell? ⟨gH, i, none⟩ = some (.int .i64 ((hv : Int) + 1)) := xh
              clear xh
              go_wp2_with fail
              go_quiet (fail)
              have HBn := Lib.hid (show Below w.heap.size w (wA.drewN nq) from ⟨HBA.out.os, HBA.out.tape, HBA.out.output, HBA.out.size, HBA.out.block⟩)
              have HEn := Lib.hid (show EJ (wA.drewN nq) b p base k R from ⟨HEA.out.sg.keep rfl, HEA.out.rs.drewN nq, HEA.out.rj, HEA.out.bp⟩)
              have HDn := Lib.hid (show Row (wA.drewN nq) dB 33 [.int .u8 (kd : Int), .int .i64 ((i : Int) + 1), .string tx] from HD.out)
              clear HBA HEA HD x2 xh2 xf Hx2 gp gb gO
              generalize wA.drewN nq = wN at *
              have k1 := HDn.out.cell 1
              simp only [List.getElem?_cons_zero, List.getElem?_cons_succ] at k1
              clear e0 e1 e2
              go_wp2_with fail
              refine (Hle0.out wN HEn.out.sg.toP).mono ?_
              rintro e w4 ⟨rfl, hS4, hg4⟩
              have HS4 := Lib.hid (hS4.sg.mono (Nat.le_succ k))
              have HR4 := Lib.hid (HEn.out.rs.grown (b := b) hg4 HEn.out.bp)
              have HD4 := Lib.hid (HDn.out.keep (hg4.block dB HDn.out.lt (fun e => by injection e with e; have := Hbd.out.1; have e2 : b = dB := e.symm; omega)))
              have HB4 := Lib.hid (HBn.out.trans (below_grown (b := b) hg4 Hb.out HBn.out.size))
              obtain ⟨gK, cK, gp, gb, gO, x2, xh, xf, hset⟩ := HR4.out.held i hi Hth.out
              have m1 := HD4.out.cell 1
              simp only [List.getElem?_cons_zero, List.getElem?_cons_succ] at m1
              have Hset := Lib.hid (hset hv)
              have Hgp := Lib.hid gp
              have Hgb := Lib.hid gb
              have Hgd : Hid (dB ≠ gK) := Lib.hid (fun e => by
                obtain ⟨t, cs, fz, h1, h2⟩ := gO
                have h3 := HD4.out
                unfold Row at h3
                rw [e, h1] at h3
                simp only [Option.some.injEq, Obj.cells.injEq] at h3
                rw [h3.2.1] at h2
                revert h2
                decide)
              have Hx2 := Lib.hid x2
              have Hk1 := Lib.hid m1
              rw [Hhv.out, Int.natCast_add] at xh
              have xh2 : w4.cell? ⟨gK, i, none⟩ = some (.int .i64 ((hv : Int) + 1)) := xh
              clear hS4 hg4 Hle0 k1 hset gp gb gO x2 m1 xh
              have hw1 : IntKind.i64.wrap (hv : Int) = (hv : Int) := IntWalk.i64_in _ (by omega)
              go_wp2_with fail
              refine wp_region_held_drew (S := (fun W : World => W.cell? ⟨p, 2, none⟩ = some (.slice (some ⟨gK, 0, none⟩) R.length cK) ∧ W.cell? ⟨dB, 1, none⟩ = some (.int .i64 ((i : Int) + 1)))) (by kernel_rfl) (by exact ⟨Hx2.out, Hk1.out⟩) (fun hHeld => ?_)
              refine wpAnyH_take (i := 0) (oi := { dst := some 108, op := Go.Op.move (Go.Operand.tmp 4), type := 26, pos := "law.go:73", after := #[], guard := none }) (v := ?_) rfl (by kernel_rfl) (by kernel_rfl) (by kernel_rfl) (fun _ _ _ h => h) (Or.inl ⟨by rfl, ?_⟩) (by assumption) ?_
              rotate_left
              · (intro w hSw; (try dsimp only at hSw); go_simp; (try with_reducible rfl))
              try simp only [Act.put, List.setIfInBounds_toArray, List.set_cons_zero, List.set_cons_succ]
              refine wpAnyH_take (i := 1) (oi := { dst := some 109, op := Go.Op.nilCheck (Go.Operand.tmp 108), type := 0, pos := "law.go:73", after := #[{ on := 0, ground := Go.Ground.data }], guard := none }) (v := ?_) rfl (by kernel_rfl) (by kernel_rfl) (by kernel_rfl) (fun _ _ _ h => h) (Or.inl ⟨by rfl, ?_⟩) (by assumption) ?_
              rotate_left
              · (intro w hSw; (try dsimp only at hSw); go_simp; (try with_reducible rfl))
              try simp only [Act.put, List.setIfInBounds_toArray, List.set_cons_zero, List.set_cons_succ]
              refine wpAnyH_take (i := 2) (oi := { dst := some 110, op := Go.Op.fieldAddr 31 (Go.Operand.tmp 109) 2, type := 0, pos := "law.go:73", after := #[{ on := 1, ground := Go.Ground.data }], guard := none }) (v := ?_) rfl (by kernel_rfl) (by kernel_rfl) (by kernel_rfl) (fun _ _ _ h => h) (Or.inl ⟨by rfl, ?_⟩) (by assumption) ?_
              rotate_left
              · (intro w hSw; (try dsimp only at hSw); go_simp; (try with_reducible rfl))
              try simp only [Act.put, List.setIfInBounds_toArray, List.set_cons_zero, List.set_cons_succ]
              refine wpAnyH_take (i := 3) (oi := { dst := some 111, op := Go.Op.load 29 (Go.Operand.tmp 110), type := 29, pos := "law.go:73", after := #[{ on := 2, ground := Go.Ground.data }], guard := none }) (v := ?_) rfl (by kernel_rfl) (by kernel_rfl) (by kernel_rfl) (fun _ _ _ h => h) (Or.inl ⟨by rfl, ?_⟩) (by assumption) ?_
              rotate_left
              · (intro w hSw; (try dsimp only at hSw); go_simp; (try with_reducible rfl))
              try simp only [Act.put, List.setIfInBounds_toArray, List.set_cons_zero, List.set_cons_succ]
              refine wpAnyH_take (i := 4) (oi := { dst := some 112, op := Go.Op.fieldAddr 33 (Go.Operand.tmp 6) 1, type := 0, pos := "law.go:73", after := #[], guard := none }) (v := ?_) rfl (by kernel_rfl) (by kernel_rfl) (by kernel_rfl) (fun _ _ _ h => h) (Or.inl ⟨by rfl, ?_⟩) (by assumption) ?_
              rotate_left
              · (intro w hSw; (try dsimp only at hSw); go_simp; (try with_reducible rfl))
              try simp only [Act.put, List.setIfInBounds_toArray, List.set_cons_zero, List.set_cons_succ]
              refine wpAnyH_take (i := 5) (oi := { dst := some 113, op := Go.Op.load 3 (Go.Operand.tmp 112), type := 3, pos := "law.go:73", after := #[{ on := 4, ground := Go.Ground.data }], guard := none }) (v := ?_) rfl (by kernel_rfl) (by kernel_rfl) (by kernel_rfl) (fun _ _ _ h => h) (Or.inl ⟨by rfl, ?_⟩) (by assumption) ?_
              rotate_left
              · (intro w hSw; (try dsimp only at hSw); go_simp; (try with_reducible rfl))
              try simp only [Act.put, List.setIfInBounds_toArray, List.set_cons_zero, List.set_cons_succ]
              refine wpAnyH_take (i := 6) (oi := { dst := some 114, op := Go.Op.binOp Go.BinOp.sub 3 (Go.Operand.tmp 113) (Go.Operand.const (Go.Value.int Go.IntKind.i64 1)) 3, type := 3, pos := "law.go:73", after := #[{ on := 5, ground := Go.Ground.data }], guard := none }) (v := ?_) rfl (by kernel_rfl) (by kernel_rfl) (by kernel_rfl) (fun _ _ _ h => h) (Or.inl ⟨by rfl, ?_⟩) (by assumption) ?_
              rotate_left
              · (intro w hSw; (try dsimp only at hSw); go_simp; (try with_reducible rfl))
              try simp only [Act.put, List.setIfInBounds_toArray, List.set_cons_zero, List.set_cons_succ]
              refine wpAnyH_take (i := 7) (oi := { dst := some 115, op := Go.Op.indexAddr 29 (Go.Operand.tmp 111) (Go.Operand.tmp 114), type := 0, pos := "law.go:73", after := #[{ on := 3, ground := Go.Ground.data }, { on := 6, ground := Go.Ground.data }], guard := none }) (v := ?_) rfl (by kernel_rfl) (by kernel_rfl) (by kernel_rfl) (fun _ _ _ h => h) (Or.inl ⟨by rfl, ?_⟩) (by assumption) ?_
              rotate_left
              · (intro w hSw; (try dsimp only at hSw); go_simp; (try with_reducible rfl))
              try simp only [Act.put, List.setIfInBounds_toArray, List.set_cons_zero, List.set_cons_succ]
              refine wpAnyH_ready (rs := [8]) (by kernel_rfl) (by simp) ?_
              refine AllReadyH.cons (o := { dst := some 116, op := Go.Op.load 3 (Go.Operand.tmp 115), type := 3, pos := "law.go:73", after := #[{ on := 7, ground := Go.Ground.data }], guard := none }) rfl (fun K hK => ?_) AllReadyH.nil
              go_simp
              refine hK.out _ _ (by exact ⟨Hx2.out, Hk1.out⟩) (fun hHeld => ?_)
              clear hK K
              try simp only [Act.put, List.setIfInBounds_toArray, List.set_cons_zero, List.set_cons_succ]
              refine wpAnyH_take (i := 9) (oi := { dst := some 117, op := Go.Op.binOp Go.BinOp.sub 3 (Go.Operand.tmp 116) (Go.Operand.const (Go.Value.int Go.IntKind.i64 1)) 3, type := 3, pos := "law.go:73", after := #[{ on := 8, ground := Go.Ground.data }], guard := none }) (v := ?_) rfl (by kernel_rfl) (by kernel_rfl) (by kernel_rfl) (fun _ _ _ h => h) (Or.inl ⟨by rfl, ?_⟩) (by assumption) ?_
              rotate_left
              · (intro w hSw; (try dsimp only at hSw); go_simp; (try with_reducible rfl))
              try simp only [Act.put, List.setIfInBounds_toArray, List.set_cons_zero, List.set_cons_succ]
              refine wpAnyH_take (i := 10) (oi := { dst := some 118, op := Go.Op.indexAddr 29 (Go.Operand.tmp 111) (Go.Operand.tmp 114), type := 0, pos := "law.go:73", after := #[{ on := 3, ground := Go.Ground.data }, { on := 6, ground := Go.Ground.data }, { on := 0, ground := Go.Ground.phase }, { on := 1, ground := Go.Ground.phase }, { on := 2, ground := Go.Ground.phase }, { on := 3, ground := Go.Ground.phase }, { on := 4, ground := Go.Ground.phase }, { on := 5, ground := Go.Ground.phase }, { on := 6, ground := Go.Ground.phase }, { on := 7, ground := Go.Ground.phase }, { on := 8, ground := Go.Ground.phase }, { on := 9, ground := Go.Ground.phase }], guard := none }) (v := ?_) rfl (by kernel_rfl) (by kernel_rfl) (by kernel_rfl) (fun _ _ _ h => h) (Or.inl ⟨by rfl, ?_⟩) (by assumption) ?_
              rotate_left
              · (intro w hSw; (try dsimp only at hSw); go_simp; (try with_reducible rfl))
              try simp only [Act.put, List.setIfInBounds_toArray, List.set_cons_zero, List.set_cons_succ]
              refine wpAnyH_ready (rs := [11]) (by kernel_rfl) (by simp) ?_
              refine AllReadyH.cons (o := { dst := none, op := Go.Op.store 3 (Go.Operand.tmp 118) (Go.Operand.tmp 117), type := 0, pos := "law.go:73", after := #[{ on := 10, ground := Go.Ground.data }, { on := 9, ground := Go.Ground.data }, { on := 0, ground := Go.Ground.phase }, { on := 1, ground := Go.Ground.phase }, { on := 2, ground := Go.Ground.phase }, { on := 3, ground := Go.Ground.phase }, { on := 4, ground := Go.Ground.phase }, { on := 5, ground := Go.Ground.phase }, { on := 6, ground := Go.Ground.phase }, { on := 7, ground := Go.Ground.phase }, { on := 8, ground := Go.Ground.phase }, { on := 9, ground := Go.Ground.phase }], guard := none }) rfl (fun K hK => ?_) AllReadyH.nil
              go_simp
              refine hK.out _ _ (by exact ⟨(cell_far _ _ (fun e => Hgp.out e.symm)).trans Hx2.out, (cell_far _ _ Hgd.out).trans Hk1.out⟩) (fun hHeld => ?_)
              clear hK K
              try simp only [Act.put, List.setIfInBounds_toArray, List.set_cons_zero, List.set_cons_succ]
              refine wpAnyH_done (by kernel_rfl) ?_ _
              have HK5 := Lib.hid (Hset.out.2.drew)
              have HR5 := Lib.hid (Hset.out.1.drewN 1)
              have HE5 := Lib.hid (HEn.out.step (HS4.out.keep (HK5.out.block b HS4.out.lt (by have := HEn.out.bp; omega) (Or.inl (by have := HEn.out.bp; have := Hpb.out; omega)))) HR5.out HJ.out)
              have HD5 := Lib.hid (HK5.out.row HD4.out (by have := Hbd.out.2; omega) (by decide) (by decide) (by decide))
              have HB5 := Lib.hid (HB4.out.trans ((HK5.out.below Hpb.out (by have := HR4.out; obtain ⟨_, _, _, h1⟩ := this; exact Nat.le_of_lt h1.row.lt)).mono Hp.out))
              go_wp2
              go_meet
              exact ⟨Lib.hid ⟨_, HE5.out⟩, HB5, HD5⟩
      case rest =>
        obtain ⟨hex, HB2, HD2⟩ := hcut
        obtain ⟨R2, hE2⟩ := hex.out
        have HE2 := Lib.hid hE2
        have k1 := HD2.out.cell 1
        simp only [List.getElem?_cons_zero, List.getElem?_cons_succ] at k1
        have Hha := Lib.hid (erhas_any p base R2 ep wc o1 (by have := hE2.rj.2.1; have := Hk80.out; omega) hE2.rs)
        have hdl := Bm.dl_has R2 ep (fun h => h)
        clear hex hE2 HEA HBA HD e0 e1 e2 h41
        go_wp2_with fail
        refine Hha.out.mono ?_
        rintro e w' ⟨rfl, rfl⟩
        clear Hha
        cases hhas : Bm.hasR ep R2 with
        | false =>
          obtain ⟨hg1, _⟩ := hdl.2 hhas
          clear hdl hhas
          have HEN := HE2
          have HBN := HB2
          have HDN := HD2

          clear HE2 HB2 HD2 k1
          have k1 := HDN.out.cell 1
          simp only [List.getElem?_cons_zero, List.getElem?_cons_succ] at k1
          have HT := Lib.hid (etext_at b (k + 1) (Bm.dlF 0 R2) ep (⟨#[]⟩ : ByteArray) false wc HEN.out.sg (by unfold txD; rw [hg1]; rfl) (by unfold isD; rw [hg1]; rfl))
          have Hhd0 : hdD ep (Bm.dlF 0 R2) = 0 := by unfold hdD; rw [hg1]; rfl
          go_wp2_with fail
          refine HT.out.mono ?_
          rintro e wT ⟨rfl, hbT⟩
          have HE := Lib.hid (HEN.out.below hbT)
          have HB := Lib.hid (HBN.out.trans (hbT.mono HBN.out.size))
          have HDD := Lib.hid (row_below HDN.out hbT)
          clear HEN HBN HDN HT k1 hbT
          have hR9 : R2.length ≤ 1000 := by have := HE.out.rj.2.1; have := Hk80.out; omega
          have Hhe := Lib.hid (fun W (hW : Below wT.heap.size wT W) => eheld_at b (k + 1) (Bm.dlF 0 R2) ep 0 W (HE.out.sg.below hW) Hhd0)
          have Hla := Lib.hid (fun W (hW : Below wT.heap.size wT W) => elast_at b (k + 1) (Bm.dlF 0 R2) R2.length W (HE.out.sg.below hW) (Bm.lastD_dl R2 HE.out.rj.1))
          have hE1000 := epR_small R2 hR9
          have Hal := Lib.hid (fun W (hW : Below wT.heap.size wT W) => eall_at b (k + 1) R2 W (HE.out.sg.below hW))
          have Hra := Lib.hid (fun W (hW : Below wT.heap.size wT W) => erall_at p base R2 W (Nat.le_trans hR9 (by decide)) (HE.out.rs.below hW))
          have Hsa := Lib.hid (fun W A B ca cb h1 h2 => esame_any A B ca cb (epR R2) W hE1000 h1 h2)
          obtain ⟨AT, cT, hp0, hpl⟩ := HE.out.rs.texts
          have hd1 : ∀ W, Below wT.heap.size wT W → W.cell? ⟨dB, 1, none⟩ = some (.int .i64 ep) := fun W hW => (row_below HDD.out hW).cell 1
          have hp1 : ∀ W, Below wT.heap.size wT W → W.cell? ⟨p, 0, none⟩ = some (.slice AT R2.length cT) := fun W hW => (hW.cell (p := ⟨p, 0, none⟩) hpl).trans hp0
          have hll : ((R2.length : Int) == (R2.length : Int)) = true := beq_self_eq_true _

          clear hp0 hpl Hhd0 hg1 hE1000 hR9 HDD

          go_wp2_with fail
          go_region_held3 (fun W => Below wT.heap.size wT W) (first | with_reducible assumption | exact (Below.refl wT.heap.size wT).drew) (first
            | (go_at_call 14; (with_reducible refine (Hhe.out _ (by with_reducible assumption)).mono ?_); rintro e wX ⟨rfl, hbX⟩; have HX : Below wT.heap.size wT wX := Below.trans (by with_reducible assumption) (hbX.mono (Below.size (by with_reducible assumption))); clear hbX)
            | (go_at_call 15; (with_reducible refine (Hla.out _ (by with_reducible assumption)).mono ?_); rintro e wY ⟨rfl, hbY⟩; have HY : Below wT.heap.size wT wY := Below.trans (by with_reducible assumption) (hbY.mono (Below.size (by with_reducible assumption))); clear hbY)
            | (go_at_call 17; (with_reducible refine (Hal.out _ (by with_reducible assumption)).mono ?_); rintro e wP ⟨gP, rfl, hrP, hbP⟩; have HP : Below wT.heap.size wT wP := Below.trans (by with_reducible assumption) (hbP.mono (Below.size (by with_reducible assumption))); have HrP := Lib.hid hrP; have HbP := Lib.hid hbP; clear hbP hrP)
            | (go_at_call 18; (with_reducible refine (Hra.out _ (by with_reducible assumption)).mono ?_); rintro e wQ ⟨AQ, cQ, rfl, hrQ, hbQ⟩; have HQ : Below wT.heap.size wT wQ := Below.trans (by with_reducible assumption) (hbQ.mono (Below.size (by with_reducible assumption))); have HrQ := Lib.hid hrQ; have HbQ := Lib.hid hbQ; clear hbQ hrQ)
            | (go_at_call 16; (first | (with_reducible refine (Hsa.out wQ _ _ _ _ (HrP.out _ HbQ.out) (HrQ.out _ (Below.refl _ _))).mono ?_) | (with_reducible refine (Hsa.out wP _ _ _ _ (HrP.out _ (Below.refl _ _)) (HrQ.out _ HbP.out)).mono ?_)); rintro e wS ⟨rfl, hbS⟩; have HS : Below wT.heap.size wT wS := Below.trans (by with_reducible assumption) (hbS.mono (Below.size (by with_reducible assumption))); clear hbS))
          all_goals
            have HES := Lib.hid (HE.out.below HS)
            have HBS := Lib.hid (HB.out.trans (HS.mono HB.out.size))
            clear HS hd1 hp1 Hhe Hla Hal Hra Hsa HE HB
            go_wp2
            go_roundw
            case rel => exact ⟨k + 1, by omega, by go_num, Lib.hid ⟨R2, HES.out⟩, HBS⟩
            case measure => simp [intOf]; omega
        | true =>
          obtain ⟨i, hi, rfl, hth, hg1, _⟩ := hdl.1 hhas
          clear hdl hhas hth
          obtain ⟨gT, cT0, gH, cH, x0, x1, x2, x3⟩ := HE2.out.rs.seen i hi
          have hiI : (i : Int) < (R2.length : Int) := by omega
          have hR80 : R2.length ≤ 1000 := by have := HE2.out.rj.2.1; have := Hk80.out; omega
          go_wp2_with fail
          go_quiet (fail)
          clear x0 x1 x2 x3
          have HEN := Lib.hid (HE2.out.drewN nq)
          have HBN := Lib.hid (show Below w.heap.size w (wc.drewN nq) from ⟨HB2.out.os, HB2.out.tape, HB2.out.output, HB2.out.size, HB2.out.block⟩)
          have HDN := Lib.hid (show Row (wc.drewN nq) dB 33 [.int .u8 (kd : Int), .int .i64 ((i : Int) + 1), .string tx] from HD2.out)

          clear HE2 HB2 HD2 k1
          have k1 := HDN.out.cell 1
          simp only [List.getElem?_cons_zero, List.getElem?_cons_succ] at k1
          have HT := Lib.hid (etext_at b (k + 1) (Bm.dlF 0 R2) ((i : Int) + 1) R2[i].t true (wc.drewN nq) HEN.out.sg (by unfold txD; rw [hg1]; rfl) (by unfold isD; rw [hg1]; rfl))
          have Hhd0 : hdD ((i : Int) + 1) (Bm.dlF 0 R2) = R2[i].h := by unfold hdD; rw [hg1]; rfl
          go_wp2_with fail
          refine HT.out.mono ?_
          rintro e wT ⟨rfl, hbT⟩
          have HE := Lib.hid (HEN.out.below hbT)
          have HB := Lib.hid (HBN.out.trans (hbT.mono HBN.out.size))
          have HDD := Lib.hid (row_below HDN.out hbT)
          clear HEN HBN HDN HT k1 hbT
          have hR9 : R2.length ≤ 1000 := by have := HE.out.rj.2.1; have := Hk80.out; omega
          have Hhe := Lib.hid (fun W (hW : Below wT.heap.size wT W) => eheld_at b (k + 1) (Bm.dlF 0 R2) ((i : Int) + 1) R2[i].h W (HE.out.sg.below hW) Hhd0)
          have Hla := Lib.hid (fun W (hW : Below wT.heap.size wT W) => elast_at b (k + 1) (Bm.dlF 0 R2) R2.length W (HE.out.sg.below hW) (Bm.lastD_dl R2 HE.out.rj.1))
          have hE1000 := epR_small R2 hR9
          have Hal := Lib.hid (fun W (hW : Below wT.heap.size wT W) => eall_at b (k + 1) R2 W (HE.out.sg.below hW))
          have Hra := Lib.hid (fun W (hW : Below wT.heap.size wT W) => erall_at p base R2 W (Nat.le_trans hR9 (by decide)) (HE.out.rs.below hW))
          have Hsa := Lib.hid (fun W A B ca cb h1 h2 => esame_any A B ca cb (epR R2) W hE1000 h1 h2)
          obtain ⟨AT, cT, hp0, hpl⟩ := HE.out.rs.texts
          have hd1 : ∀ W, Below wT.heap.size wT W → W.cell? ⟨dB, 1, none⟩ = some (.int .i64 ((i : Int) + 1)) := fun W hW => (row_below HDD.out hW).cell 1
          have hp1 : ∀ W, Below wT.heap.size wT W → W.cell? ⟨p, 0, none⟩ = some (.slice AT R2.length cT) := fun W hW => (hW.cell (p := ⟨p, 0, none⟩) hpl).trans hp0
          have hll : ((R2.length : Int) == (R2.length : Int)) = true := beq_self_eq_true _
          have hse : (R2[i].t.toList == R2[i].t.toList) = true := beq_self_eq_true _
          have hhe : ((R2[i].h : Int) == (R2[i].h : Int)) = true := beq_self_eq_true _
          clear hp0 hpl Hhd0 hg1 hE1000 hR9 HDD

          go_wp2_with fail
          go_region_held3 (fun W => Below wT.heap.size wT W) (first | with_reducible assumption | exact (Below.refl wT.heap.size wT).drew) (first
            | (go_at_call 14; (with_reducible refine (Hhe.out _ (by with_reducible assumption)).mono ?_); rintro e wX ⟨rfl, hbX⟩; have HX : Below wT.heap.size wT wX := Below.trans (by with_reducible assumption) (hbX.mono (Below.size (by with_reducible assumption))); clear hbX)
            | (go_at_call 15; (with_reducible refine (Hla.out _ (by with_reducible assumption)).mono ?_); rintro e wY ⟨rfl, hbY⟩; have HY : Below wT.heap.size wT wY := Below.trans (by with_reducible assumption) (hbY.mono (Below.size (by with_reducible assumption))); clear hbY)
            | (go_at_call 17; (with_reducible refine (Hal.out _ (by with_reducible assumption)).mono ?_); rintro e wP ⟨gP, rfl, hrP, hbP⟩; have HP : Below wT.heap.size wT wP := Below.trans (by with_reducible assumption) (hbP.mono (Below.size (by with_reducible assumption))); have HrP := Lib.hid hrP; have HbP := Lib.hid hbP; clear hbP hrP)
            | (go_at_call 18; (with_reducible refine (Hra.out _ (by with_reducible assumption)).mono ?_); rintro e wQ ⟨AQ, cQ, rfl, hrQ, hbQ⟩; have HQ : Below wT.heap.size wT wQ := Below.trans (by with_reducible assumption) (hbQ.mono (Below.size (by with_reducible assumption))); have HrQ := Lib.hid hrQ; have HbQ := Lib.hid hbQ; clear hbQ hrQ)
            | (go_at_call 16; (first | (with_reducible refine (Hsa.out wQ _ _ _ _ (HrP.out _ HbQ.out) (HrQ.out _ (Below.refl _ _))).mono ?_) | (with_reducible refine (Hsa.out wP _ _ _ _ (HrP.out _ (Below.refl _ _)) (HrQ.out _ HbP.out)).mono ?_)); rintro e wS ⟨rfl, hbS⟩; have HS : Below wT.heap.size wT wS := Below.trans (by with_reducible assumption) (hbS.mono (Below.size (by with_reducible assumption))); clear hbS))
          all_goals
            have HES := Lib.hid (HE.out.below HS)
            have HBS := Lib.hid (HB.out.trans (HS.mono HB.out.size))
            clear HS hd1 hp1 Hhe Hla Hal Hra Hsa HE HB
            go_wp2
            go_roundw
            case rel => exact ⟨k + 1, by omega, by go_num, Lib.hid ⟨R2, HES.out⟩, HBS⟩
            case measure => simp [intOf]; omega
    · obtain rfl : k = xs.length := by omega
      go_wp2
      go_ret
      exact ⟨rfl, hbel.out⟩
end Go.Proofs.Ytdaobbhgmjdooaa
