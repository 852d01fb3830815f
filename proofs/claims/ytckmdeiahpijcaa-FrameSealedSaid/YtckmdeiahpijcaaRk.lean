/-
  The laws' Take of layer 24 (frame), by its walk: what came of frames that were sent alone; awake. Conditions: as each theorem's premises say.
-/
import Derived.Test.YtckmdeiahpijcaaRf
import Derived.Test.YtckmdeiahpijcaaRj
import Derived.Test.YtckmdeiahpijcaaXy
namespace Go.Proofs.Ytckmdeiahpijcaa
open Go.RowKit

/-- What may change: these two blocks, and new ones. -/
structure Twn (w w' : World) (p q : Nat) : Prop where
  os : w'.os = w.os
  tape : w'.tape = w.tape
  output : w'.output = w.output
  size : w.heap.size ≤ w'.heap.size
  block : ∀ i, i < w.heap.size → i ≠ p → i ≠ q → w'.heap[i]? = w.heap[i]?
theorem Twn.refl (w : World) (p q : Nat) : Twn w w p q := ⟨rfl, rfl, rfl, Nat.le_refl _, fun _ _ _ _ => rfl⟩
theorem Twn.trans {w w1 w2 : World} {p q : Nat} (h : Twn w w1 p q) (h2 : Twn w1 w2 p q) : Twn w w2 p q :=
  ⟨h2.os.trans h.os, h2.tape.trans h.tape, h2.output.trans h.output, Nat.le_trans h.size h2.size, fun i hi hp hq => (h2.block i (Nat.lt_of_lt_of_le hi h.size) hp hq).trans (h.block i hi hp hq)⟩
theorem Twn.below {w w' : World} {p q : Nat} (h : Below w.heap.size w w') : Twn w w' p q := ⟨h.os, h.tape, h.output, h.size, fun i hi _ _ => h.block i hi⟩
theorem Twn.one {w w' : World} {p q : Nat} (h : w.grownBy w' (some p)) : Twn w w' p q := ⟨h.os, h.tape, h.output, h.size, fun i hi hp _ => h.block i hi (fun e => by injection e with e; exact hp e)⟩
theorem Twn.other {w w' : World} {p q : Nat} (h : w.grownBy w' (some q)) : Twn w w' p q := ⟨h.os, h.tape, h.output, h.size, fun i hi _ hq => h.block i hi (fun e => by injection e with e; exact hq e)⟩
theorem Twn.toBelow {w0 w w' : World} {p q B : Nat} (hb : Below B w0 w) (h : Twn w w' p q) (hp : B ≤ p) (hq : B ≤ q) (hB : B ≤ w.heap.size) : Below B w0 w' :=
  hb.trans ⟨h.os, h.tape, h.output, h.size, fun i hi => h.block i (by omega) (by omega) (by omega)⟩
theorem below_world {B : Nat} {w w' : World} (h : Below B w w') : w'.os = w.os ∧ w'.tape = w.tape ∧ w'.output = w.output := ⟨h.os, h.tape, h.output⟩

theorem PI.came {w : World} {b : Nat} {kc kf : List Bm.Itm} {m h n : Nat} (k : PI w b kc kf m h n) : w.cell? ⟨b, 4097, none⟩ = some (.int .i64 (kc.length : Int)) := by
  obtain ⟨f, G, hpw, _⟩ := k
  exact hpw.cells.2.1
theorem itms_cons (s : Bool) (x : Nat) (l : List Nat) : Bm.itms s (x :: l) = (x, s) :: Bm.itms s l := rfl
theorem PI.row {w : World} {b : Nat} {kc kf : List Bm.Itm} {m h n : Nat} (k : PI w b kc kf m h n) : ∃ C, Row w b 69 C := by
  obtain ⟨_, _, ⟨C, h1, _⟩, _⟩ := k
  exact ⟨C, h1⟩
theorem CuI.row {w : World} {b : Nat} {all rest : List Nat} (k : CuI w b all rest) : ∃ C, Row w b 72 C := by
  obtain ⟨_, ⟨C, h1, _⟩, _⟩ := k
  exact ⟨C, h1⟩
theorem feedW_frame {W : World} {b : Nat} {s all' : List Nat} {f : Bm.Frm} (h : feedW W b s all' (f, true, 0)) : CuI W b all' [] := by
  unfold feedW at h
  rw [if_neg (by simp), if_pos rfl] at h
  exact h
theorem feedW_part {W : World} {b : Nat} {s all' : List Nat} {f : Bm.Frm} (h : feedW W b s all' (f, false, 0)) : CuI W b all' s := by
  unfold feedW at h
  rw [if_neg (by simp), if_neg (by simp)] at h
  exact h
theorem feedW_bad {W : World} {b : Nat} {s all' : List Nat} {f : Bm.Frm} {is : Bool} {e : Nat} (he : e ≠ 0) (h : feedW W b s all' (f, is, e)) : CuE W b e all'.length := by
  unfold feedW at h
  rw [if_pos he] at h
  exact h
/-- The way of Take: so many bytes are fed, so many frames are out. -/
structure TkI (w0 : World) (p c m : Nat) (kf : List Bm.Itm) (all xs later : List Nat) (F : List Bm.Frm) (w : World) (v : Value) (k : Nat) : Prop where
  ex : ∃ F1 F2 rest, F = F1 ++ F2 ∧ FrO w w0.heap.size v F1 ∧ CuI w c (all ++ xs.take k) rest ∧ Bm.Cutting F2 rest (xs.drop k ++ later)
  pipe : PI w p (Bm.itms true (xs.drop k)) kf m (Bm.fromH Bm.H0 (all ++ xs.take k)) (all ++ xs.take k).length
  two : Twn w0 w p c
set_option maxHeartbeats 2000000 in
set_option maxRecDepth 100000 in
theorem frtake_any (p c m : Nat) (kf : List Bm.Itm) (all rest xs later : List Nat) (F : List Bm.Frm) (w : World) (hpc : p ≠ c) (hxs : ∀ x ∈ xs, x < 256) (hlen : all.length + xs.length < 1000000) (hF : F.length ≤ 1000000)
    (hp : PI w p (Bm.itms true xs) kf m (Bm.fromH Bm.H0 all) all.length) (hc : CuI w c all rest) (hcut : Bm.Cutting F rest (xs ++ later)) :
    Calls Try.prog 15 #[.pointer (some ⟨c, 0, none⟩), .pointer (some ⟨p, 0, none⟩)] w fun e w' => ∃ v, e = .returned (.tuple #[v, .int .i64 0]) ∧ TkI w p c m kf all xs later F w' v xs.length := by
  have hst : TkI w p c m kf all xs later F w (.slice none 0 0) 0 := ⟨⟨[], F, rest, rfl, frO_nil _ _, by simpa using hc, by simpa using hcut⟩, by simpa using hp, Twn.refl _ _ _⟩
  have Hst := Lib.hid hst
  have Hxs := Lib.hid hxs
  obtain ⟨N, hN⟩ : ∃ N, N = xs.length := ⟨_, rfl⟩
  rw [← hN] at hlen ⊢
  have HN := Lib.hid hN
  clear hst hxs hp hc hcut hN
  go_enter Try.func15, Try.ntmps15
  go_wp2
  go_loopw [6] (fun v wr => ∃ k : Nat, k ≤ N ∧ Hid (TkI w p c m kf all xs later F wr v k)) (fun _ wr => (intOf ((wr.cell? ⟨p, 4097, none⟩).getD (.bool false))).toNat)
  case atStart => exact ⟨0, by omega, Hst⟩
  case round =>
    obtain ⟨k, hk, HT⟩ := hrel
    obtain ⟨⟨F1, F2, rest1, hFe, hfo, hci, hcut⟩, hpi, htw⟩ := HT.out
    have hm0 := PI.came hpi
    have HFe := Lib.hid hFe
    have Hfo := Lib.hid hfo
    have Hci := Lib.hid hci
    have Htw := Lib.hid htw
    have Hpi := Lib.hid hpi
    have Hcut := Lib.hid hcut
    have Hm0 := Lib.hid hm0
    clear hFe hfo hci htw hm0 HT
    by_cases hkN : k < N
    · have hkx : k < xs.length := by have := HN.out; omega
      have hdr : xs.drop k = xs[k] :: xs.drop (k + 1) := List.drop_eq_getElem_cons hkx
      have htk : all ++ xs.take (k + 1) = (all ++ xs.take k) ++ [xs[k]] := by rw [List.take_succ_eq_append_getElem hkx, List.append_assoc]
      have hx := Hxs.out xs[k] (List.getElem_mem hkx)
      rw [hdr, itms_cons] at hpi
      rw [hdr] at hcut
      have hal : (all ++ xs.take k).length = all.length + k := by rw [List.length_append, List.length_take]; omega
      have Htake := Lib.hid (pptake_sent p xs[k] _ kf m _ _ wr (by rw [hal]; omega) hpi)
      have hO := fun W hW => frfeed_any c xs[k] (Bm.sumOf ((all ++ xs.take k) ++ [xs[k]])) true (all ++ xs.take k) rest1 W hx (by rw [hal]; omega) (Hci.out.keep hW)
      have hsl : Bm.sumH (Bm.stepH (Bm.fromH Bm.H0 (all ++ xs.take k)) xs[k]) ((all ++ xs.take k).length + 1) = Bm.sumOf ((all ++ xs.take k) ++ [xs[k]]) := by
        unfold Bm.sumOf
        rw [Bm.fromH_snoc, show ((all ++ xs.take k) ++ [xs[k]]).length = (all ++ xs.take k).length + 1 by rw [List.length_append, List.length_singleton]]
      rw [hsl, ← Bm.fromH_snoc] at Htake
      have hout : ∃ O, O = feedO (rest1 ++ [xs[k]]) ((all ++ xs.take k) ++ [xs[k]]) true (Bm.sumOf ((all ++ xs.take k) ++ [xs[k]])) ∧
          ((O = (Bm.zfr, false, 0) ∧ Bm.Cutting F2 (rest1 ++ [xs[k]]) (xs.drop (k + 1) ++ later)) ∨ ∃ f fs, F2 = f :: fs ∧ O = (f, true, 0) ∧ Bm.Cutting fs [] (xs.drop (k + 1) ++ later)) := by
        refine ⟨_, rfl, ?_⟩
        rcases Bm.Cutting.step hcut with ⟨e1, e2, e3⟩ | ⟨f, fs, e0, e1, e2, e3, e4, e5⟩
        · refine .inl ⟨?_, e3⟩
          unfold feedO
          rw [Bm.firstF_more _ e1 e2, if_neg (by simp), if_pos rfl]
        · refine .inr ⟨f, fs, e0, ?_, e5⟩
          unfold feedO
          rw [Bm.firstF_whole _ e1 (by omega) e3, if_neg (by simp), if_neg (by show ¬ Bm.sizeN _ = 0; unfold Bm.sizeN; omega), if_pos ⟨rfl, rfl⟩, e4]
      obtain ⟨O, hOe, hcase⟩ := hout
      rw [← hOe] at hO
      have Hcase := Lib.hid hcase
      have HO := Lib.hid hO
      have Htk := Lib.hid htk
      clear hcase hO hOe hsl hdr hcut hpi
      rw [← htk] at Htake HO
      have hplt := Hpi.out.lt
      have hclt := Hci.out.lt
      obtain ⟨CC, hrc, _⟩ : ∃ CC, Row wr c 72 CC ∧ True := by
        obtain ⟨_, ⟨C, h1, _⟩, _⟩ := Hci.out
        exact ⟨C, h1, trivial⟩
      obtain ⟨CP, hrp, _⟩ : ∃ CP, Row wr p 69 CP ∧ True := by
        obtain ⟨_, _, ⟨C, h1, _⟩, _⟩ := Hpi.out
        exact ⟨C, h1, trivial⟩
      have Hrc := Lib.hid hrc
      have Hrp := Lib.hid hrp
      have Hplt := Lib.hid hplt
      have Hclt := Lib.hid hclt
      have Hal : Hid ((all ++ xs.take k).length + 1 = (all ++ xs.take (k + 1)).length) := Lib.hid (by rw [htk, List.length_append (bs := [xs[k]]), List.length_singleton])
      rw [Hal.out] at Htake
      clear hrc hrp hplt hclt hal htk
      obtain ⟨all', hall'⟩ : ∃ a, a = all ++ xs.take (k + 1) := ⟨_, rfl⟩
      rw [← hall'] at Htake HO
      obtain ⟨x, hxe⟩ : ∃ x, x = xs[k] := ⟨_, rfl⟩
      rw [← hxe] at Htake HO Hcase hx
      have Hxe := Lib.hid hxe
      have Hall' := Lib.hid hall'
      clear hxe hall'
      generalize Bm.sumOf all' = sm at *
      go_wp2_with fail
      refine Htake.out.mono ?_
      rintro e w1 ⟨rfl, hp1, hg1⟩
      have Hp1 := Lib.hid hp1
      have Hg1 := Lib.hid hg1
      have hc1 : w1.heap[c]? = wr.heap[c]? := hg1.block c Hclt.out (by intro e; injection e with e; exact hpc e.symm)
      have Hc1 := Lib.hid hc1
      have Hfo1 := Lib.hid (Hfo.out.grown hg1 Hrp.out (by decide))
      clear hp1 hg1 hc1 Htake Hfo
      unfold ppB
      go_wp2_with fail
      have hca : (w1.alloc (.cells #[.int .u8 (x : Int), .int .u64 (sm : Int), .bool true] 47)).heap[c]? = wr.heap[c]? := (Below.heap_alloc w1 _ c (Nat.lt_of_lt_of_le Hclt.out Hg1.out.size)).trans Hc1.out
      refine (HO.out _ hca).mono ?_
      rintro e w2 ⟨rfl, hw2, hg2⟩
      have hga : wr.grownBy (w1.alloc (.cells #[.int .u8 (x : Int), .int .u64 (sm : Int), .bool true] 47)) (some p) := grown_alloc Hg1.out _
      have hpa := Hp1.out.keep (Below.heap_alloc w1 (.cells #[.int .u8 (x : Int), .int .u64 (sm : Int), .bool true] 47) p (Nat.lt_of_lt_of_le Hplt.out Hg1.out.size))
      have hfa := Hfo1.out.below ((Below.refl _ _).alloc (Nat.le_refl _) (.cells #[.int .u8 (x : Int), .int .u64 (sm : Int), .bool true] 47))
      have hra : Row (w1.alloc (.cells #[.int .u8 (x : Int), .int .u64 (sm : Int), .bool true] 47)) c 72 CC := Hrc.out.keep hca
      clear HO hca Hp1 Hg1 Hfo1
      generalize w1.alloc (.cells #[.int .u8 (x : Int), .int .u64 (sm : Int), .bool true] 47) = wa at *
      have Hp2 := Lib.hid (hpa.keep (hg2.block p hpa.lt (by intro e; injection e with e; exact hpc e)))
      have Hfo2 := Lib.hid (hfa.grown hg2 hra (by decide))
      have Htw2 := Lib.hid ((Htw.out.trans (Twn.one hga)).trans (Twn.other hg2))
      have Hw2 := Lib.hid hw2
      clear hpa hfa hra hga hg2 hw2 Htw
      rcases Hcase.out with ⟨rfl, hcut2⟩ | ⟨f, fs, rfl, rfl, hcut2⟩
      · have hci2 : CuI w2 c all' (rest1 ++ [x]) := by
          have h1 := Hw2.out
          unfold feedW at h1
          rw [if_neg (by simp), if_neg (by simp)] at h1
          exact h1
        have Hci2 := Lib.hid hci2
        have Hcut2 := Lib.hid hcut2
        clear hci2 hcut2 Hcase Hw2
        unfold feedV frV Bm.zfr
        dsimp only
        go_wp2
        have hb3 : Below w2.heap.size w2 (w2.alloc (.cells #[.int .i64 0, .string (strOf [])] 30)) := (Below.refl _ _).alloc (Nat.le_refl _) _
        have hT : TkI w p c m kf all xs later F (w2.alloc (.cells #[.int .i64 0, .string (strOf [])] 30)) u6 (k + 1) := by
          refine ⟨⟨F1, F2, rest1 ++ [x], HFe.out, Hfo2.out.below hb3, ?_, Hcut2.out⟩, ?_, Htw2.out.trans (Twn.below hb3)⟩
          · rw [← Hall'.out]; exact Hci2.out.keep (hb3.block c Hci2.out.lt)
          · rw [← Hall'.out]; exact Hp2.out.keep (hb3.block p Hp2.out.lt)
        go_roundw
        case rel => exact ⟨k + 1, by omega, Lib.hid hT⟩
        case measure =>
          have h1 := PI.came hT.pipe
          rw [h1, Hm0.out]
          simp [intOf, Bm.itms]
          omega
      · have Hci2 := Lib.hid (feedW_frame Hw2.out)
        have Hcut2 := Lib.hid hcut2
        clear hcut2 Hcase Hw2
        have HFl : Hid (F1.length ≤ 1000000) := Lib.hid (by have h1 := HFe.out; rw [h1, List.length_append] at hF; omega)
        have HFe2 : Hid (F = (F1 ++ [f]) ++ fs) := Lib.hid (by rw [HFe.out, List.append_assoc]; rfl)
        clear HFe hF
        unfold feedV frV
        dsimp only
        have Hfo3 : Hid (FrO (w2.alloc (.cells #[.int .i64 f.1, .string (strOf f.2)] 30)) w.heap.size u6 F1) := Lib.hid (Hfo2.out.below ((Below.refl _ _).alloc (Nat.le_refl _) _))
        have Hci3 : Hid (CuI (w2.alloc (.cells #[.int .i64 f.1, .string (strOf f.2)] 30)) c all' []) := Lib.hid (Hci2.out.keep (Below.heap_alloc w2 _ c Hci2.out.lt))
        have hp3 := Hp2.out.keep (Below.heap_alloc w2 (.cells #[.int .i64 f.1, .string (strOf f.2)] 30) p Hp2.out.lt)
        have Hp3 := Lib.hid hp3
        have Htw3 : Hid (Twn w (w2.alloc (.cells #[.int .i64 f.1, .string (strOf f.2)] 30)) p c) := Lib.hid (Htw2.out.trans (Twn.below ((Below.refl _ _).alloc (Nat.le_refl _) _)))
        clear hp3
        go_wp2_with (at_builtin; refine wpFr_append f rfl _ _ rfl w.heap.size _ F1 rfl Hfo3.out (w2.heap.size + 1) (by simp) rfl HFl.out Htw3.out.size ?_)
        intro v4 w4 hfo4 hb4 hk4 hs4
        have hT : TkI w p c m kf all xs later F w4 v4 (k + 1) := by
          obtain ⟨C1, r1⟩ := Hci3.out.row
          obtain ⟨C2, r2⟩ := Hp3.out.row
          refine ⟨⟨F1 ++ [f], fs, [], HFe2.out, hfo4, ?_, Hcut2.out⟩, ?_, ⟨hb4.os.trans Htw3.out.os, hb4.tape.trans Htw3.out.tape, hb4.output.trans Htw3.out.output, Nat.le_trans Htw3.out.size hb4.size, fun i hi h1 h2 => (hb4.block i hi).trans (Htw3.out.block i hi h1 h2)⟩⟩
          · rw [← Hall'.out]; exact Hci3.out.keep (hk4 c (by simpa using Hci3.out.lt) (Hfo3.out.ne r1 (by decide)))
          · rw [← Hall'.out]; exact Hp3.out.keep (hk4 p (by simpa using Hp3.out.lt) (Hfo3.out.ne r2 (by decide)))
        clear hfo4 hb4 hk4 hs4 Hfo3 Hci3 Hp3 Htw3
        go_wp2
        go_roundw
        case rel => exact ⟨k + 1, by omega, Lib.hid hT⟩
        case measure =>
          have h1 := PI.came hT.pipe
          rw [h1, Hm0.out]
          simp [intOf, Bm.itms]
          omega
    · have hkN2 : k = N := by omega
      subst hkN2
      have hdr : xs.drop k = [] := List.drop_of_length_le (by have := HN.out; omega)
      rw [hdr] at hpi
      have Htake := Lib.hid (pptake_none p kf m _ _ wr hpi)
      clear hpi hcut hkN
      go_wp2_with fail
      refine Htake.out.mono ?_
      rintro e w1 ⟨rfl, hb1⟩
      have Hb1 := Lib.hid hb1
      clear hb1 Htake
      unfold ppB
      go_wp2_with fail
      have hb2 : Below wr.heap.size wr (w1.alloc (.cells #[.int .u8 ((0 : Nat) : Int), .int .u64 ((0 : Nat) : Int), .bool false] 47)) := Hb1.out.alloc Hb1.out.size _
      refine ((Hci.out.keep (hb2.block c Hci.out.lt)).err).mono ?_
      rintro e w2 ⟨rfl, rfl⟩
      go_wp2
      go_ret2
      refine ⟨u6, rfl, ⟨F1, F2, rest1, HFe.out, ?_, Hci.out.keep (hb2.block c Hci.out.lt), Hcut.out⟩, Hpi.out.keep (hb2.block p Hpi.out.lt), Htw.out.trans (Twn.below hb2)⟩
      exact Hfo.out.below hb2
end Go.Proofs.Ytckmdeiahpijcaa
