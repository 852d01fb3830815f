/-
  The program's layer 8 (header), by its walk: numbers, Take; what its calls answer, together. Conditions: as each theorem's premises say.
-/
import Derived.Test.YtefcahmhfjblpaaHp
namespace Go.Proofs.Ytefcahmhfjblpaa
open Go.RowKit

def hlenOf : Value → Nat
  | .slice _ n _ => n
  | _ => 0
theorem hown_kept {w w' : World} {base b : Nat} {e : TypeId} {v : Value} {n : Nat} {xs : List Value} (h : w.ownsRow base e 1 v n xs) (hg : w.grownBy w' (some b)) (hb : b < base) : w'.ownsRow base e 1 v n xs :=
  h.kept hg (by
    cases hv : v.ownBlock with
    | none => exact .inl rfl
    | some x => exact .inr (fun e => by injection e with e; have := (h.lt x hv).1; omega))
theorem hown_len {w : World} {base : Nat} {e : TypeId} {v : Value} {n : Nat} {xs : List Value} (h : w.ownsRow base e 1 v n xs) : hlenOf v = n := by
  rcases h.2 with ⟨rfl, h0⟩ | ⟨g, cap, cur, rfl, _⟩
  · exact h0.symm
  · rfl
/-- What numbers answers. -/
def NumsP (w' : World) (e : Ending) (b off : Nat) (bs : List Nat) : Option (List Nat × Nat) → Prop
  | none => e = .returned (.tuple #[.slice none 0 0, .bool false])
  | some t => ∃ A c, e = .returned (.tuple #[.slice A t.1.length c, .bool true]) ∧ Reads w' A (i64s t.1) ∧ RS w' b off bs (8 * bs.length - t.2)

namespace Bm
theorem takeN_zero (f N len : Nat) : takeN f 0 N len = some ([], len) := by cases f <;> simp [takeN]
theorem takeN_few (f R N len : Nat) (h0 : 0 < R) (h : len < wid R) : takeN f R N len = none := by
  cases f with
  | zero => rw [takeN, if_neg (by omega)]
  | succ f => rw [takeN, if_neg (by omega), if_pos h]
theorem takeN_above (f R N len : Nat) (h0 : 0 < R) (h : R < N % 2 ^ wid R) : takeN f R N len = none := by
  cases f with
  | zero => rw [takeN, if_neg (by omega)]
  | succ f => rw [takeN, if_neg (by omega)]; split <;> rfl
theorem takeN_next (f R V p L : Nat) (h0 : 0 < R) (hp : p + wid R ≤ L) (h : V / 2 ^ p % 2 ^ wid R ≤ R) :
    takeN (f + 1) R (V / 2 ^ p) (L - p) = (takeN f (R - V / 2 ^ p % 2 ^ wid R) (V / 2 ^ (p + wid R)) (L - (p + wid R))).map fun t => (V / 2 ^ p % 2 ^ wid R :: t.1, t.2) := by
  rw [takeN, if_neg (by omega), if_neg (by omega), if_neg (by omega), Nat.div_div_eq_div_mul, ← Nat.pow_add, Nat.sub_sub]
end Bm

set_option maxHeartbeats 1000000 in
set_option maxRecDepth 100000 in
theorem hdnums_any (w : World) (b off pos rest : Nat) (bs : List Nat) (hs : bs.length ≤ 100000) (hbs : ∀ x ∈ bs, x < 256) (hp : pos ≤ 8 * bs.length) (hrest : rest ≤ 512) (hrs : RS w b off bs pos) :
    Calls Try.prog 30 #[.pointer (some ⟨b, off, none⟩), .int .i64 (rest : Int)] w fun e w' => NumsP w' e b off bs (Bm.takeN 256 rest (Bm.valB bs / 2 ^ pos) (8 * bs.length - pos)) ∧ w.grownBy w' (some b) := by
  obtain ⟨i0, hi, hz0, hz1, hz2⟩ := info_parts info_in
  obtain ⟨r, hr⟩ : ∃ r, r = Bm.takeN 256 rest (Bm.valB bs / 2 ^ pos) (8 * bs.length - pos) := ⟨_, rfl⟩
  rw [← hr]
  have Hr := Lib.hid hr
  have Hrs := Lib.hid hrs
  have hbl : b < w.heap.size := hrs.2.2.2
  have Hwid : Hid (∀ (x : Nat) (W : World), x < 4294967296 → Calls Try.prog 26 #[.int .i64 (x : Int)] W fun e w' => e = .returned (.int .i64 (Bm.wid x : Int)) ∧ W = w') := Lib.hid hdwid_any
  have Hfew : Hid (∀ W p m, p ≤ 8 * bs.length → m ≤ 32 → 8 * bs.length - p < m → RS W b off bs p → Calls Try.prog 17 #[.pointer (some ⟨b, off, none⟩), .int .i64 (m : Int)] W fun e w' => e = .returned (.tuple #[.int .u32 0, .bool false]) ∧ ∃ k, w' = W.drewN k) := Lib.hid (fun W p m h1 h2 h3 h4 => take_few b off bs p m W (by omega) h1 h2 h3 h4)
  have Htake : Hid (∀ W p m, m ≤ 32 → p + m ≤ 8 * bs.length → RS W b off bs p → Calls Try.prog 17 #[.pointer (some ⟨b, off, none⟩), .int .i64 (m : Int)] W fun e w' => e = .returned (.tuple #[.int .u32 ((Bm.valB bs / 2 ^ p % 2 ^ m : Nat) : Int), .bool true]) ∧ RS w' b off bs (p + m) ∧ W.grownBy w' (some b)) := Lib.hid (fun W p m h1 h2 h3 => take_ok b off bs p m W (by omega) hbs h1 h2 h3)
  clear hr hrs hbs
  generalize Bm.valB bs = V at *
  generalize hL : 8 * bs.length = L at *
  have HL := Lib.hid hL
  clear hL
  go_enter Try.func30, Try.ntmps30
  go_wp2
  go_loopw [1, 6] (fun q u wr => ∃ (R p : Nat) (acc : List Nat), q = .int .i64 (R : Int) ∧ R ≤ 512 ∧ p ≤ L ∧ acc.length ≤ 256 ∧ w.heap.size ≤ wr.heap.size ∧ Hid (wr.ownsRow w.heap.size 3 1 u acc.length (i64s acc)) ∧ Hid (RS wr b off bs p) ∧ Hid (w.grownBy wr (some b)) ∧
    Hid (r = (Bm.takeN (256 - acc.length) R (V / 2 ^ p) (L - p)).map fun t => (acc ++ t.1, t.2))) (fun _ u _ => 256 - hlenOf u)
  case atStart =>
    refine ⟨rest, pos, [], rfl, hrest, hp, by simp, Nat.le_refl _, Lib.hid (World.ownsRow_nil w _ _ _), Hrs, Lib.hid (grown_refl _ _), Lib.hid ?_⟩
    rw [Hr.out]
    cases Bm.takeN 256 rest (V / 2 ^ pos) (L - pos) <;> simp_all
  case round =>
    obtain ⟨R, p, acc, rfl, hR, hpL, hacc, hsz, hown, hrs, hg, hres⟩ := hrel
    clear Hr Hrs
    obtain ⟨A1, c1, rfl, hrd, _⟩ := own_reads hown.out
    have Hrd := Lib.hid hrd
    have hlen := hown_len hown.out
    have Hlen := Lib.hid hlen
    clear hrd hlen
    by_cases hR0 : R = 0
    · subst hR0
      have Hx := Lib.hid hres.out
      rw [Bm.takeN_zero] at Hx
      clear hres hown
      go_wp2
      go_ret2
      rw [Hx.out]
      refine ⟨⟨A1, c1, ?_, ?_, ?_⟩, hg.out⟩
      · simp
      · simpa using Hrd.out
      · rw [HL.out, show L - (L - p) = p by omega]; exact hrs.out
    · have hw10 := Bm.wid_le_of R 10 (by omega)
      have Hw := Lib.hid (Hwid.out R wr (by omega))
      have d0 : decide ((0 : Int) < (R : Int)) = true := decide_eq_true (by omega)
      by_cases hfew : L - p < Bm.wid R
      · have Hx : Hid (r = none) := Lib.hid (by rw [hres.out, Bm.takeN_few _ _ _ _ (by omega) hfew]; rfl)
        have Hf := Lib.hid (Hfew.out wr p (Bm.wid R) hpL (by omega) hfew hrs.out)
        clear hres hown hfew hrs
        generalize Bm.wid R = wd at *
        go_wp2_with fail
        refine Hw.out.mono ?_
        rintro e w' ⟨rfl, rfl⟩
        go_wp2_with fail
        refine Hf.out.mono ?_
        rintro e w' ⟨rfl, q, rfl⟩
        go_wp2
        go_ret2
        rw [Hx.out]
        exact ⟨rfl, grown_drewN hg.out q⟩
      · have Ht := Lib.hid (Htake.out wr p (Bm.wid R) (by omega) (by omega) hrs.out)
        have hv := Nat.mod_lt (V / 2 ^ p) (Nat.two_pow_pos (Bm.wid R))
        have hP10 : 2 ^ Bm.wid R ≤ 2 ^ 10 := Nat.pow_le_pow_right (by omega) hw10
        have h1024 : (2 : Nat) ^ 10 = 1024 := by decide
        by_cases habove : R < V / 2 ^ p % 2 ^ Bm.wid R
        · have Hx : Hid (r = none) := Lib.hid (by rw [hres.out, Bm.takeN_above _ _ _ _ (by omega) habove]; rfl)
          clear hres hown
          generalize V / 2 ^ p % 2 ^ Bm.wid R = x at *
          generalize Bm.wid R = wd at *
          generalize 2 ^ wd = P at *
          have hci : IntKind.i64.wrap (x : Int) = (x : Int) := IntWalk.i64_in _ (by omega)
          have d1 : decide ((R : Int) < (x : Int)) = true := decide_eq_true (by omega)
          go_wp2_with fail
          refine Hw.out.mono ?_
          rintro e w' ⟨rfl, rfl⟩
          go_wp2_with fail
          refine Ht.out.mono ?_
          rintro e w3 ⟨rfl, hrs3, hg3⟩
          have Hg3 := Lib.hid (hgrown_trans hg.out hg3)
          clear hrs3 hg3
          go_wp2
          go_ret2
          rw [Hx.out]
          exact ⟨rfl, Hg3.out⟩
        · by_cases hfull : acc.length = 256
          · have Hx : Hid (r = none) := Lib.hid (by rw [hres.out, hfull, Bm.takeN, if_neg hR0]; rfl)
            clear hres hown
            generalize V / 2 ^ p % 2 ^ Bm.wid R = x at *
            generalize Bm.wid R = wd at *
            generalize 2 ^ wd = P at *
            have hci : IntKind.i64.wrap (x : Int) = (x : Int) := IntWalk.i64_in _ (by omega)
            have d1 : decide ((R : Int) < (x : Int)) = false := decide_eq_false (by omega)
            rw [hfull] at *
            go_wp2_with fail
            refine Hw.out.mono ?_
            rintro e w' ⟨rfl, rfl⟩
            go_wp2_with fail
            refine Ht.out.mono ?_
            rintro e w3 ⟨rfl, hrs3, hg3⟩
            have Hg3 := Lib.hid (hgrown_trans hg.out hg3)
            clear hrs3 hg3
            go_wp2
            go_ret2
            rw [Hx.out]
            exact ⟨rfl, Hg3.out⟩
          · have Hres := Lib.hid hres.out
            rw [show 256 - acc.length = (256 - (acc.length + 1)) + 1 by omega, Bm.takeN_next _ _ _ _ _ (by omega) (by omega) (by omega)] at Hres
            clear hres
            generalize V / 2 ^ p % 2 ^ Bm.wid R = x at *
            generalize Bm.wid R = wd at *
            generalize 2 ^ wd = P at *
            generalize hn : acc.length = n at *
            have Hn := Lib.hid hn
            clear hn
            have hci : IntKind.i64.wrap (x : Int) = (x : Int) := IntWalk.i64_in _ (by omega)
            have d1 : decide ((R : Int) < (x : Int)) = false := decide_eq_false (by omega)
            have d2 : ((n : Int) == 256) = false := by rw [beq_eq_false_iff_ne]; omega
            have hrx : ((R - x : Nat) : Int) = (R : Int) - (x : Int) := by omega
            have hwq : wrap64 ((R : Int) - (x : Int)) = (R : Int) - (x : Int) := wrap_in _ (by omega) (by omega)
            go_wp2_with fail
            refine Hw.out.mono ?_
            rintro e w' ⟨rfl, rfl⟩
            go_wp2_with fail
            refine Ht.out.mono ?_
            rintro e w3 ⟨rfl, hrs3, hg3⟩
            have Hg3 := Lib.hid (hgrown_trans hg.out hg3)
            have Hrs3 := Lib.hid hrs3
            have Hown3 := Lib.hid (hown_kept hown.out hg3 hbl)
            have hs3 := hg3.size
            clear hrs3 hg3 hrs hg hown Ht
            go_wp2_with (at_builtin; refine wpList_append_own _ rfl _ _ 22 rfl w.heap.size 3 i0 (.int .i64 0) 1 8 Try.underlying22 hi hz0 hz1 hz2 rfl (by decide) _ _ _ rfl (Hown3.out.alloc _) ⟨w3.heap.size, 0, none⟩ 1 1 [.int .i64 (x : Int)] rfl rfl ?d1 ?d2 ?d3 ?d4 ?d5 ?_)
            case d1 =>
              intro j u hj
              match j, hj with
              | 0, hj => simp at hj; subst hj; simp [Addr.add]
            case d2 => intro u hu; simp at hu; subst hu; rfl
            case d3 => unfold maxLen; omega
            case d4 => omega
            case d5 => simp; omega
            intro u' w7 hown7 hgr7 _
            have hga : w3.grownBy (w3.alloc (.cells #[.int .i64 (x : Int)] 3)) (some b) := grown_alloc (grown_refl _ _) _
            have hnb : (Value.slice A1 n c1).ownBlock ≠ some b := fun e => by have := (Hown3.out.lt b e).1; omega
            have Hrs7 := Lib.hid (RS.keep (RS.keep Hrs3.out (grown_alloc (grown_refl w3 none) (.cells #[.int .i64 (x : Int)] 3)) (by simp)) hgr7 hnb)
            have Hg7 : Hid (w.grownBy w7 (some b)) := Lib.hid (by
              have h1 := hgrown_trans Hg3.out hga
              refine ⟨hgr7.os.trans h1.os, hgr7.tape.trans h1.tape, hgr7.output.trans h1.output, Nat.le_trans h1.size hgr7.size, fun i hi2 hne => ?_⟩
              rw [← h1.block i hi2 hne]
              exact hgr7.block i (Nat.lt_of_lt_of_le hi2 h1.size) (fun e => by have := (Hown3.out.lt i e.symm).1; omega))
            have e : i64s acc ++ [Value.int .i64 (x : Int)] = i64s (acc ++ [x]) := by simp [i64s]
            rw [e] at hown7
            have hl7 := hown_len hown7
            have hs7 : w.heap.size ≤ w7.heap.size := Hg7.out.size
            have Hown7 := Lib.hid hown7
            have Hln : Hid ((acc ++ [x]).length = n + 1) := Lib.hid (by rw [List.length_append, Hn.out]; rfl)
            clear hown7 hgr7 e hga hnb Hown3 Hg3 Hrs3
            go_wp2
            go_roundw
            case rel =>
              refine ⟨R - x, p + wd, acc ++ [x], by rw [hrx], by omega, by omega, by rw [Hln.out]; omega, hs7, by rw [Hln.out]; exact Hown7, Hrs7, Hg7, Lib.hid ?_⟩
              rw [Hres.out, Hln.out]
              cases Bm.takeN (256 - (n + 1)) (R - x) (V / 2 ^ (p + wd)) (L - (p + wd)) with
              | none => rfl
              | some t => simp
            case measure => rw [hl7]; show 256 - (n + 1) < 256 - n; omega

set_option maxHeartbeats 1000000 in
set_option maxRecDepth 100000 in
theorem hdtake_any (w : World) (b off pos : Nat) (bs : List Nat) (hs : bs.length ≤ 100000) (hbs : ∀ x ∈ bs, x < 256) (hp : pos ≤ 8 * bs.length) (hrs : RS w b off bs pos) :
    Calls Try.prog 18 #[.pointer (some ⟨b, off, none⟩)] w fun e w' => TakeP w' e (Bm.takeA (Bm.valB bs / 2 ^ pos) (8 * bs.length - pos)) ∧ w.grownBy w' (some b) ∧
      ∀ t, Bm.takeA (Bm.valB bs / 2 ^ pos) (8 * bs.length - pos) = some t → RS w' b off bs (8 * bs.length - t.2.2) := by
  unfold Bm.takeA
  by_cases hfew : 8 * bs.length - pos < 3
  · rw [if_pos hfew]
    have Hf := Lib.hid (take_few b off bs pos 3 w (by omega) hp (by omega) hfew hrs)
    clear hrs hbs
    go_enter Try.func18, Try.ntmps18
    go_wp2_with fail
    refine Hf.out.mono ?_
    rintro e w' ⟨rfl, q, rfl⟩
    go_wp2
    go_ret3
    exact ⟨⟨_, _, rfl⟩, grown_drewN (grown_refl _ _) q, fun t h => by cases h⟩
  · rw [if_neg hfew]
    have ht := take_ok b off bs pos 3 w (by omega) hbs (by omega) (by omega) hrs
    have hm := Nat.mod_lt (Bm.valB bs / 2 ^ pos) (Nat.two_pow_pos 3)
    have h8 : (2 : Nat) ^ 3 = 8 := by decide
    by_cases h4 : 4 < Bm.valB bs / 2 ^ pos % 2 ^ 3
    · rw [if_pos h4]
      have Ht := Lib.hid ht
      clear ht hrs hbs
      generalize Bm.valB bs / 2 ^ pos % 2 ^ 3 = x at *
      have hci : IntKind.i64.wrap (x : Int) = (x : Int) := IntWalk.i64_in _ (by omega)
      have hw5 : wrap64 (5 + (x : Int)) = 5 + (x : Int) := wrap_in _ (by omega) (by omega)
      have d1 : decide ((9 : Int) < 5 + (x : Int)) = true := decide_eq_true (by omega)
      go_enter Try.func18, Try.ntmps18
      go_wp2_with fail
      refine Ht.out.mono ?_
      rintro e w' ⟨rfl, _, hg⟩
      have Hg := Lib.hid hg
      clear hg
      go_wp2
      go_ret3
      exact ⟨⟨_, _, rfl⟩, Hg.out, fun t h => by cases h⟩
    · rw [if_neg h4]
      have hP := hpow_fair (5 + Bm.valB bs / 2 ^ pos % 2 ^ 3) (by omega) (by omega)
      have Hnums := Lib.hid (fun W (h : RS W b off bs (pos + 3)) => hdnums_any W b off (pos + 3) (2 ^ (5 + Bm.valB bs / 2 ^ pos % 2 ^ 3)) bs hs hbs (by omega) hP.2 h)
      rw [Nat.pow_add (m := pos) (n := 3), ← Nat.div_div_eq_div_mul, ← Nat.sub_sub] at Hnums
      have Ht := Lib.hid ht
      clear ht hrs hbs
      generalize hr : Bm.takeN 256 (2 ^ (5 + Bm.valB bs / 2 ^ pos % 2 ^ 3)) (Bm.valB bs / 2 ^ pos / 2 ^ 3) (8 * bs.length - pos - 3) = r at *
      clear hr
      generalize Bm.valB bs / 2 ^ pos % 2 ^ 3 = x at *
      have hci : IntKind.i64.wrap (x : Int) = (x : Int) := IntWalk.i64_in _ (by omega)
      have hw5 : wrap64 (5 + (x : Int)) = 5 + (x : Int) := wrap_in _ (by omega) (by omega)
      have d1 : decide ((9 : Int) < 5 + (x : Int)) = false := decide_eq_false (by omega)
      have d2 : decide (5 + (x : Int) < 0) = false := decide_eq_false (by omega)
      have htn : (5 + (x : Int)).toNat = 5 + x := by omega
      have hpd : (2 : Int) ^ (5 + x) = ((2 ^ (5 + x) : Nat) : Int) := by simp
      have H5x : Hid (5 + (x : Int) = ((5 + x : Nat) : Int)) := Lib.hid (by omega)
      obtain ⟨S, hS⟩ : ∃ S, S = 2 ^ (5 + x) := ⟨_, rfl⟩
      rw [← hS] at hP hpd Hnums
      have hw64 : wrap64 (S : Int) = (S : Int) := wrap_in _ (by omega) (by omega)
      clear hS
      go_enter Try.func18, Try.ntmps18
      go_wp2_with fail
      refine Ht.out.mono ?_
      rintro e w1 ⟨rfl, hrs1, hg1⟩
      have Hn1 := Lib.hid (Hnums.out w1 hrs1)
      have Hg1 := Lib.hid hg1
      clear hrs1 hg1 Hnums Ht
      cases r with
      | none =>
        go_wp2_with fail
        refine Hn1.out.mono ?_
        rintro e w2 ⟨rfl, hg2⟩
        have Hg2 := Lib.hid (hgrown_trans Hg1.out hg2)
        clear hg2
        go_wp2
        go_ret3
        exact ⟨⟨_, _, rfl⟩, Hg2.out, fun t h => by cases h⟩
      | some t =>
        go_wp2_with fail
        refine Hn1.out.mono ?_
        rintro e w2 ⟨⟨A, c, rfl, hrd, hrs2⟩, hg2⟩
        have Hg2 := Lib.hid (hgrown_trans Hg1.out hg2)
        have Hrd := Lib.hid hrd
        have Hrs2 := Lib.hid hrs2
        clear hg2 hrd hrs2
        go_wp2
        go_ret3
        refine ⟨⟨A, c, ?_, Hrd.out⟩, Hg2.out, fun t h => ?_⟩
        · rw [H5x.out]; rfl
        · injection h with h
          subst h
          exact Hrs2.out

theorem header_is : HdrOk where
  put w b off N n A c l log hn hws hl hok hlog hr hA hf := hdput_put w b off N n A c l log hn hws hl hok hlog hr hA hf
  noPut w b off _ _ A c l log _ _ hl hok hlog hr hf := hdput_not w b off A l.length c log (fair_false hl hok hlog hr hf)
  putNil w A c l log _ _ _ _ := hdput_nil w A l.length c log
  take w b off pos bs hs hbs hp hrs := hdtake_any w b off pos bs hs hbs hp hrs
  size w A c l log hl hok hlog hr := hdsize_any w A c l log hl hok hlog hr
end Go.Proofs.Ytefcahmhfjblpaa
