/-
  The reference's layer 16: shared, by its walk. Conditions: as each theorem's premises say.
  The reference's layer 16: Unstream, by its walk. Conditions: as each theorem's premises say. (mkzu.py writes this text.)
-/
import Derived.Test.YtbdciiiimdbmkaaGreatGba
import Derived.Test.YtbdciiiimdbmkaaGreatGae
import Derived.Test.YtbdciiiimdbmkaaGreatGbe
import Derived.Test.YtbdciiiimdbmkaaGreatGbf
import Derived.Test.YtbdciiiimdbmkaaGreatGap
import Derived.Test.YtbdciiiimdbmkaaGreatGaf
namespace Go.Proofs.YtbdciiiimdbmkaaGreat
open Go.RowKit

namespace Bm
theorem bitsOf_noughts (X m : Nat) (h : X < 2 ^ m) : (∀ x ∈ bitsOf X m, x = 0) ↔ X = 0 := by
  constructor
  · intro hz
    apply Nat.eq_of_testBit_eq
    intro i
    rw [Nat.zero_testBit, Nat.testBit_eq_decide_div_mod_eq]
    apply decide_eq_false
    rcases Nat.lt_or_ge i m with hi | hi
    · have h1 := bitsOf_get? X m i hi
      have h2 := hz _ (List.mem_of_getElem? h1)
      omega
    · rw [Nat.div_eq_of_lt (Nat.lt_of_lt_of_le h (Nat.pow_le_pow_right (by omega) hi))]
      simp
  · rintro rfl x hx
    obtain ⟨i, hi, rfl⟩ := List.getElem_of_mem hx
    rw [bitsOf_get, Nat.zero_div]
theorem rest_bits (V len left : Nat) (hV : V < 2 ^ len) (hl : left ≤ len) : decide (((bitsOf V len).drop (len - left)).length < 8 ∧ ∀ x ∈ (bitsOf V len).drop (len - left), x = 0) = restB V len left := by
  unfold restB
  have hlt : V / 2 ^ (len - left) < 2 ^ (len - (len - left)) := by
    rw [Nat.div_lt_iff_lt_mul (Nat.two_pow_pos _), ← Nat.pow_add, show len - (len - left) + (len - left) = len by omega]
    exact hV
  have hz := bitsOf_noughts _ _ hlt
  rw [bitsOf_drop, bitsOf_length, show len - (len - left) = left by omega] at *
  exact decide_eq_decide.2 ⟨fun h => ⟨h.1, hz.1 h.2⟩, fun h => ⟨h.1, hz.2 h.2⟩⟩
theorem txt_le (l : List Nat) (t : List Nat × Nat) (h : txtD l = some t) : 0 < t.2 ∧ t.2 ≤ l.length ∧ t.1.length ≤ 4096 ∧ ∀ x ∈ t.1, x ∈ l := by
  unfold txtD at h
  split at h
  · next hc =>
    injection h with h
    subst h
    have hk := (firstG_some l _ _ hc.1 rfl).2.2
    exact ⟨by dsimp only; omega, by dsimp only; omega, by rw [List.length_take]; omega, fun x hx => List.mem_of_mem_drop (List.mem_of_mem_take hx)⟩
  · cases h
end Bm
/-- A string's bytes, in a new block. -/
theorem conv_r (w : World) (l : List Nat) (hlt : ∀ x ∈ l, x < 256) : ∃ w2 g c, (convert 9 45 (.string (strOf l))).run Tryz.prog w = .ok (.slice (some ⟨g, 0, none⟩) l.length c) w2 ∧
    Reads w2 (some ⟨g, 0, none⟩) (u8s l) ∧ (∀ a, some (⟨g, 0, none⟩ : Addr) = some a → 0 < l.length → a.block < w2.heap.size) ∧ Below w.heap.size w w2 := by
  obtain ⟨w2, cap, h, hc, hb⟩ := conv_back w l hlt
  refine ⟨w2, _, cap, h, fun _ => ⟨_, 0, rfl, fun j hj => ?_⟩, fun a e h0 => ?_, hb⟩
  · rw [u8s_length] at hj
    rw [Nat.zero_add, hc j hj, u8s_get? l j hj]
  · injection e with e
    subst e
    exact cell_in (hc 0 h0)
/-- What shared, Unstream answer. -/
def ShrP (w' : World) (e : Ending) : Option (List Nat × Nat) → Prop
  | none => e = .returned (.tuple #[.slice none 0 0, .int .i64 0])
  | some r => ∃ A c, e = .returned (.tuple #[.slice A r.1.length c, .int .i64 (r.2 : Int)]) ∧ Reads w' A (u8s r.1)
theorem rbits_r (A : Option Addr) (c : Nat) (bs : List Nat) (w : World) (hn : bs.length ≤ 100000) (hbs : ∀ b ∈ bs, b < 256) (hr : Reads w A (u8s bs)) (hA : ∀ a, A = some a → 0 < bs.length → a.block < w.heap.size) :
    Calls Tryz.prog 22 #[.slice A bs.length c] w fun e w' => ∃ A' c', e = .returned (.slice A' (8 * bs.length) c') ∧ 8 * bs.length ≤ c' ∧ c' ≤ maxLen ∧ Reads w' A' (i64s (Bm.bitsOf (Bm.valB bs) (8 * bs.length))) ∧ Below w.heap.size w w' := by
  refine (rbits_any A c bs w hn hbs hr hA).mono ?_
  rintro e w' ⟨u, rfl, ho, hbl⟩
  obtain ⟨A', c', hc', hcm', hmx, _⟩ := own_rest ho
  obtain ⟨A2, c2, hform, hrd, _⟩ := own_reads ho
  rw [hc'] at hform
  injection hform with e1 e2 e3
  subst e1 e3
  exact ⟨A', c', by rw [hc'], hcm', hmx, hrd, hbl⟩
set_option maxHeartbeats 1000000 in
set_option maxRecDepth 100000 in
theorem shared_one (l : List Nat) (n : Nat) (w : World) (ht : ∀ W, Calls Tryz.prog 21 #[.string (strOf l)] W fun e w' => TxtP e none ∧ Below W.heap.size W w') :
    Calls Tryz.prog 45 #[.string (strOf l), .int .i64 (n : Int)] w fun e w' => ShrP w' e none ∧ Below w.heap.size w w' := by
  have Ht := Lib.hid ht
  clear ht
  generalize strOf l = sl at *
  go_enter Tryz.func45, Tryz.ntmps45
  go_wp2_with fail
  refine (Ht.out _).mono ?_
  rintro e w1 ⟨rfl, hb1⟩
  have Hb1 := Lib.hid hb1
  clear hb1 Ht
  go_wp2
  go_ret2
  exact ⟨rfl, Hb1.out⟩
set_option maxHeartbeats 1000000 in
set_option maxRecDepth 100000 in
theorem shared_two (s s1 st : ByteArray) (k : Nat) (n : Nat) (w : World) (h0 : 0 < k) (hk : k ≤ 100000)
    (ht : ∀ W, Calls Tryz.prog 21 #[.string s] W fun e w' => e = .returned (.tuple #[.string st, .int .i64 (k : Int)]) ∧ Below W.heap.size W w')
    (hfrom : ∀ W : World, (Instr.slice 9 (.string s) (some (.int .i64 (k : Int))) none none).run Tryz.prog W = .ok (.string s1) W)
    (ht2 : ∀ W, Calls Tryz.prog 21 #[.string s1] W fun e w' => TxtP e none ∧ Below W.heap.size W w') :
    Calls Tryz.prog 45 #[.string s, .int .i64 (n : Int)] w fun e w' => ShrP w' e none ∧ Below w.heap.size w w' := by
  have Ht := Lib.hid ht
  have Ht2 := Lib.hid ht2
  have d0 : ((k : Int) == 0) = false := by rw [beq_eq_false_iff_ne]; omega
  clear ht ht2 h0
  go_enter Tryz.func45, Tryz.ntmps45
  go_wp2_with fail
  refine (Ht.out _).mono ?_
  rintro e w1 ⟨rfl, hb1⟩
  have Hb1 := Lib.hid hb1
  clear hb1 Ht
  go_wp2_with fail
  refine (Ht2.out _).mono ?_
  rintro e w2 ⟨rfl, hb2⟩
  have Hb2 := Lib.hid (Hb1.out.trans (hb2.mono Hb1.out.size))
  clear hb2 Ht2 Hb1
  go_wp2
  go_ret2
  exact ⟨rfl, Hb2.out⟩
set_option maxHeartbeats 4000000 in
set_option maxRecDepth 100000 in
theorem shared_both (s s1 : ByteArray) (hd bd : List Nat) (k k2 : Nat) (n : Nat) (w : World) (h0 : 0 < k) (hk : k ≤ 100000) (h02 : 0 < k2) (hk2 : k2 ≤ 100000) (hn : n ≤ 100000) (hhl : hd.length ≤ 4096) (hbl : bd.length ≤ 4096)
    (hhlt : ∀ x ∈ hd, x < 256) (hblt : ∀ x ∈ bd, x < 256)
    (ht : ∀ W, Calls Tryz.prog 21 #[.string s] W fun e w' => e = .returned (.tuple #[.string (strOf hd), .int .i64 (k : Int)]) ∧ Below W.heap.size W w')
    (hfrom : ∀ W : World, (Instr.slice 9 (.string s) (some (.int .i64 (k : Int))) none none).run Tryz.prog W = .ok (.string s1) W)
    (ht2 : ∀ W, Calls Tryz.prog 21 #[.string s1] W fun e w' => e = .returned (.tuple #[.string (strOf bd), .int .i64 (k2 : Int)]) ∧ Below W.heap.size W w') :
    Calls Tryz.prog 45 #[.string s, .int .i64 (n : Int)] w fun e w' => ShrP w' e (match Bm.headD hd with | none => none | some h => (Bm.decB h.1 h.2 bd (n : Int)).map fun c => (c, k + k2)) ∧ Below w.heap.size w w' := by
  have Ht := Lib.hid ht
  have Ht2 := Lib.hid ht2
  have d0 : ((k : Int) == 0) = false := by rw [beq_eq_false_iff_ne]; omega
  have d2 : ((k2 : Int) == 0) = false := by rw [beq_eq_false_iff_ne]; omega
  have hkk : (k : Int) + (k2 : Int) = ((k + k2 : Nat) : Int) := by omega
  have bkk : k + k2 ≤ 200000 := by omega
  generalize k + k2 = kk at *
  have Hc1 := Lib.hid (fun W => conv_r W hd hhlt)
  have Hc2 := Lib.hid (fun W => conv_r W bd hblt)
  have Hrb := Lib.hid (fun W A c (h : Reads W A (u8s hd)) (hA : ∀ a, A = some a → 0 < hd.length → a.block < W.heap.size) => rbits_r A c hd W (by omega) hhlt h hA)
  have hV := Bm.valB_lt hd hhlt
  rw [Bm.p256] at hV
  obtain ⟨len, hlen⟩ : ∃ len, len = 8 * hd.length := ⟨_, rfl⟩
  have hres : Bm.headD hd = (match Bm.takeA (Bm.valB hd) (8 * hd.length) with | none => none | some t => if Bm.restB (Bm.valB hd) (8 * hd.length) t.2.2 = true then some (t.1, t.2.1) else none) := rfl
  have hlenb : len ≤ 40000 := by omega
  rw [hres]
  rw [← hlen] at hV Hrb ⊢
  obtain ⟨res, hr⟩ : ∃ res, res = (match (match Bm.takeA (Bm.valB hd) len with | none => none | some t => if Bm.restB (Bm.valB hd) len t.2.2 = true then some (t.1, t.2.1) else none) with | none => none | some h => (Bm.decB h.1 h.2 bd (n : Int)).map fun c => (c, kk)) := ⟨_, rfl⟩
  rw [← hr]
  have HN : Hid (Bm.takeA (Bm.valB hd) len = none → res = none) := Lib.hid (fun h => by rw [hr, h])
  have HF : Hid (∀ ls lg left, Bm.takeA (Bm.valB hd) len = some (ls, lg, left) → Bm.restB (Bm.valB hd) len left = false → res = none) := Lib.hid (fun ls lg left h h1 => by rw [hr, h]; simp only [h1]; simp)
  have HD : Hid (∀ ls lg left, Bm.takeA (Bm.valB hd) len = some (ls, lg, left) → Bm.restB (Bm.valB hd) len left = true → res = (Bm.decB ls lg bd (n : Int)).map fun c => (c, kk)) := Lib.hid (fun ls lg left h h1 => by rw [hr, h]; simp only [h1]; simp)
  clear hr
  have Htk := Lib.hid (fun W A c (hc : len ≤ c) (hcm : c ≤ maxLen) (h : Reads W A (i64s (Bm.bitsOf (Bm.valB hd) len))) => gtake_any A c (Bm.valB hd) len W (by omega) hc hcm h)
  have hfair := fun l lg e' (h : Bm.takeA (Bm.valB hd) len = some (l, lg, e')) => Bm.takeA_fair _ _ l lg e' h
  have Hdec := Lib.hid (fun (A B : Option Addr) (c d : Nat) (ls : List Nat) (lg : Nat) (W : World) (hf : Bm.FairN ls lg) (h1 : Reads W A (c3 (Bm.cellsM ls lg))) (h2 : Reads W B (u8s bd)) => gdec_code A B c d ls lg bd (n : Int) W hf (by omega) ⟨by omega, by omega⟩ hblt h1 h2)
  clear hhlt hblt hlen h0 h02 ht ht2 hres
  generalize Bm.valB hd = V at *
  have Hbl := Lib.hid hbl
  have Hhl := Lib.hid hhl
  clear hbl hhl
  generalize hd.length = nh at *
  generalize bd.length = nb at *
  generalize strOf hd = sh at *
  generalize strOf bd = sb at *
  go_enter Tryz.func45, Tryz.ntmps45
  go_wp2_with fail
  refine (Ht.out _).mono ?_
  rintro e w1 ⟨rfl, hb1⟩
  have Hb1 := Lib.hid hb1
  clear hb1 Ht
  go_wp2_with fail
  refine (Ht2.out _).mono ?_
  rintro e w2 ⟨rfl, hb2⟩
  have Hb2 := Lib.hid (Hb1.out.trans (hb2.mono Hb1.out.size))
  clear hb2 Ht2 Hb1
  obtain ⟨w3, g3, k3, hconv, hr3, hA3, hb3⟩ := Hc1.out w2
  have Hb3 := Lib.hid (Hb2.out.trans (hb3.mono Hb2.out.size))
  have Hr3 := Lib.hid hr3
  have HA3 := Lib.hid hA3
  clear hr3 hA3 hb3 Hb2 Hc1
  go_wp2_with fail
  refine (Hrb.out w3 _ _ Hr3.out HA3.out).mono ?_
  rintro e w4 ⟨A4, c4, rfl, hlc4, hcm4, hr4, hb4⟩
  have Hb4 := Lib.hid (Hb3.out.trans (hb4.mono Hb3.out.size))
  have Hr4 := Lib.hid hr4
  clear hr4 hb4 Hb3 Hrb Hr3 HA3 hconv
  go_wp2_with fail
  refine (Htk.out w4 A4 c4 hlc4 hcm4 Hr4.out).mono ?_
  rintro e w5 ⟨htp, hb5⟩
  have Hb5 := Lib.hid (Hb4.out.trans (hb5.mono Hb4.out.size))
  have Hr5 := Lib.hid (reads_on Hr4.out hb5)
  clear hb5 Hb4 Hr4 Htk
  cases htk : Bm.takeA V len with
  | none =>
    rw [htk] at htp
    unfold GTakeP at htp
    dsimp only at htp
    subst htp
    have Hres := Lib.hid (HN.out htk)
    clear hfair htk HN HF HD
    go_wp2
    go_ret2
    exact ⟨by rw [Hres.out]; rfl, Hb5.out⟩
  | some t =>
    obtain ⟨ls, lg, left⟩ := t
    rw [htk] at htp
    unfold GTakeP at htp
    dsimp only at htp ⊢
    obtain ⟨A6, c6, rfl, hr6⟩ := htp
    obtain ⟨hfn, hle⟩ := hfair ls lg left htk
    obtain ⟨q, hq⟩ : ∃ q : Nat, q = len - left := ⟨_, rfl⟩
    have hqi : (len : Int) - (left : Int) = (q : Int) := by omega
    have hq0 : ((q : Int) == 0) = false := by rw [beq_eq_false_iff_ne]; omega
    have hrest := Bm.rest_bits V len left hV (by omega)
    rw [← hq] at hrest
    have hdl : ((Bm.bitsOf V len).drop q).length = len - q := by rw [List.length_drop, Bm.bitsOf_length]
    have hno := fun W (h : Reads W A4 (i64s (Bm.bitsOf V len))) => qrnoughts_any (behindA A4 c4 q) (c4 - q) ((Bm.bitsOf V len).drop q) W (by omega) (reads_behind h (by rw [Bm.bitsOf_length]; exact hlc4))
    rw [hrest, hdl] at hno
    have Hno := Lib.hid hno
    have hcut := fun W => cut_from A4 len c4 q W (by omega) hlc4
    have hfb : Bm.fairB (ls.map (fun n : Nat => (n : Int))) (lg : Int) = true := by unfold Bm.fairB; exact decide_eq_true (Bm.fairN_fair ls lg hfn)
    have hfc := fun W (h : Reads W A6 (i64s ls)) => hfair_any A6 c6 (ls.map (fun n : Nat => (n : Int))) (lg : Int) W (by rw [List.length_map]; have := hfn.len; omega) (by rw [i64z_nat]; exact h)
    rw [hfb, List.length_map] at hfc
    have Hfc := Lib.hid hfc
    have Hbu := Lib.hid (fun W (h : Reads W A6 (i64s ls)) => jbuild_any A6 c6 ls lg W hfn h)
    have Hr6 := Lib.hid hr6
    have hlg := hfn.high
    have hlsl := hfn.len
    have Hdec2 := Lib.hid (fun A B c d W (h1 : Reads W A (c3 (Bm.cellsM ls lg))) (h2 : Reads W B (u8s bd)) => Hdec.out A B c d ls lg W hfn h1 h2)
    rw [hqi]
    have HF2 := Lib.hid (HF.out ls lg left htk)
    have HD2 := Lib.hid (HD.out ls lg left htk)
    clear hfair hle hq hrest hdl hno hfb hfc hr6 htk hV Hdec HN HF HD
    generalize behindA A4 c4 q = A4' at *
    generalize c4 - q = c4' at *
    generalize len - q = len' at *
    cases hrs : Bm.restB V len left with
    | false =>
      rw [hrs] at Hno
      have Hres := Lib.hid (HF2.out hrs)
      clear hrs Hfc Hbu Hdec2 HF2 HD2
      go_wp2_with fail
      refine (Hno.out _ Hr5.out).mono ?_
      rintro e w6 ⟨rfl, rfl⟩
      clear Hno
      go_wp2
      go_ret2
      exact ⟨by rw [Hres.out]; rfl, Hb5.out⟩
    | true =>
      rw [hrs] at Hno
      have Hres := Lib.hid (HD2.out hrs)
      clear hrs HF2 HD2
      go_wp2_with fail
      refine (Hno.out _ Hr5.out).mono ?_
      rintro e w6 ⟨rfl, rfl⟩
      clear Hno
      go_wp2_with fail
      refine (Hfc.out _ Hr6.out).mono ?_
      rintro e w6 ⟨rfl, rfl⟩
      clear Hfc
      go_wp2_with fail
      refine (Hbu.out _ Hr6.out).mono ?_
      rintro e w7 ⟨g7, rfl, hg7, hrow7, hb7⟩
      have Hb7 := Lib.hid (Hb5.out.trans (hb7.mono Hb5.out.size))
      have Hrow7 := Lib.hid (row_reads hrow7)
      clear hb7 Hb5 hrow7 Hbu hg7 Hr6 Hr5
      obtain ⟨w8, g8, c8, hconv, hr8, hA8, hb8⟩ := Hc2.out w7
      have Hb8 := Lib.hid (Hb7.out.trans (hb8.mono Hb7.out.size))
      have Hr8 := Lib.hid hr8
      have Hrow8 := Lib.hid (reads_on Hrow7.out hb8)
      clear hr8 hA8 hb8 Hb7 Hrow7 Hc2
      obtain ⟨S, hS⟩ : ∃ S, S = 2 ^ lg := ⟨_, rfl⟩
      rw [← hS] at Hdec2 ⊢
      clear hS
      rcases Hdec2.out (some ⟨g7, 0, none⟩) (some ⟨g8, 0, none⟩) S c8 w8 Hrow8.out Hr8.out with ⟨hd0, hcall⟩ | ⟨cs, hd0, hcall⟩
      · rw [hd0, Option.map_none] at Hres
        have Hcall := Lib.hid hcall
        clear hcall hd0 Hdec2
        go_wp2_with fail
        refine Hcall.out.mono ?_
        rintro e w9 ⟨rfl, hb9⟩
        have Hb9 := Lib.hid (Hb8.out.trans (hb9.mono Hb8.out.size))
        clear hb9 Hcall Hb8
        go_wp2
        go_ret2
        exact ⟨by rw [Hres.out]; rfl, Hb9.out⟩
      · rw [hd0, Option.map_some] at Hres
        have Hcall := Lib.hid hcall
        clear hcall hd0 Hdec2
        go_wp2_with fail
        refine Hcall.out.mono ?_
        rintro e w9 ⟨A9, c9, rfl, hr9, hb9⟩
        have Hb9 := Lib.hid (Hb8.out.trans (hb9.mono Hb8.out.size))
        have Hr9 := Lib.hid hr9
        clear hb9 Hcall Hb8 hr9
        go_wp2
        go_ret2
        exact ⟨by rw [Hres.out]; exact ⟨A9, c9, rfl, Hr9.out⟩, Hb9.out⟩
theorem qrshared_any (l : List Nat) (n : Nat) (w : World) (hl : l.length ≤ 100000) (hlt : ∀ x ∈ l, x < 256) (hn : n ≤ 100000) :
    Calls Tryz.prog 45 #[.string (strOf l), .int .i64 (n : Int)] w fun e w' => ShrP w' e (Bm.sharedD l n) ∧ Below w.heap.size w w' := by
  unfold Bm.sharedD
  cases hp : Bm.txtD l with
  | none => exact shared_one l n w (fun W => hp ▸ qrtext_any l W hl hlt)
  | some p =>
    obtain ⟨p0, p1, p2, p3⟩ := Bm.txt_le l p hp
    have ht := fun W => qrtext_any l W hl hlt
    have hfrom := fun W => str_from l p.2 (by omega) W
    have hdlt : ∀ x ∈ l.drop p.2, x < 256 := fun x hx => hlt x (List.mem_of_mem_drop hx)
    have ht2 := fun W => qrtext_any (l.drop p.2) W (by rw [List.length_drop]; omega) hdlt
    rw [hp] at ht
    dsimp only
    cases hq : Bm.txtD (l.drop p.2) with
    | none =>
      rw [hq] at ht2
      exact shared_two _ _ _ p.2 n w p0 (by omega) ht hfrom ht2
    | some q =>
      obtain ⟨q0, q1, q2, q3⟩ := Bm.txt_le _ q hq
      rw [List.length_drop] at q1
      rw [hq] at ht2
      exact shared_both _ _ p.1 q.1 p.2 q.2 n w p0 (by omega) q0 (by omega) hn p2 q2 (fun x hx => hlt x (p3 x hx)) (fun x hx => hdlt x (q3 x hx)) ht hfrom ht2
end Go.Proofs.YtbdciiiimdbmkaaGreat

namespace Go.Proofs.YtbdciiiimdbmkaaGreat
open Go.RowKit
set_option linter.unusedVariables false

namespace Bm
theorem shared_pos (t : List Nat) (n : Nat) (r : List Nat × Nat) (h : sharedD t n = some r) : 0 < r.2 ∧ r.2 ≤ t.length := by
  unfold sharedD at h
  split at h
  · cases h
  · next p hp =>
    obtain ⟨p0, p1, _⟩ := txt_le t p hp
    split at h
    · cases h
    · next q hq =>
      obtain ⟨q0, q1, _⟩ := txt_le _ q hq
      rw [List.length_drop] at q1
      split at h
      · cases h
      · next u hu =>
        cases hd : decB u.1 u.2 q.1 (n : Int) with
        | none => rw [hd] at h; cases h
        | some c =>
          rw [hd, Option.map_some] at h
          injection h with h
          subst h
          exact ⟨by dsimp only; omega, by dsimp only; omega⟩
theorem str_read (bs : List Nat) (n : Nat) : strD bs n = (match readD bs n with | none => none | some r => if ∀ x ∈ r.1, x < 28 then some r else none) := rfl
end Bm
set_option maxHeartbeats 2000000 in
set_option maxRecDepth 100000 in
theorem uns_nil (n : Nat) (w : World) :
    Calls Tryz.prog 20 #[.string (strOf []), .int .i64 (n : Int)] w fun e w' => ShrP w' e none ∧ Below w.heap.size w w' := by
  have hem := emptyB []
  rw [decide_eq_true rfl] at hem
  generalize strOf [] = s at hem
  go_enter Tryz.func20, Tryz.ntmps20
  go_wp2
  go_ret2
  exact ⟨rfl, Below.refl _ _⟩
set_option maxHeartbeats 2000000 in
set_option maxRecDepth 100000 in
theorem uns_0n (s : ByteArray) (L n : Nat) (w : World) (hem : s.toList.isEmpty = false) (hsz : s.size = L) (hL : L ≤ 100000) (hn0 : 1 ≤ n) (hn : n ≤ 4096) (hidx : ∀ W : World, (Instr.index 9 (.string s) (.int .i64 0)).run Tryz.prog W = .ok (.int .u8 0) W) (h : L < n + 1) :
    Calls Tryz.prog 20 #[.string s, .int .i64 (n : Int)] w fun e w' => ShrP w' e none ∧ Below w.heap.size w w' := by
  have n0 : decide ((n : Int) < 0) = false := decide_eq_false (by omega)
  have n1 : decide ((4096 : Int) < (n : Int)) = false := decide_eq_false (by omega)
  have n2 : decide (4096 < n) = false := decide_eq_false (by omega)
  have d3 : decide ((L : Int) - 1 < (n : Int)) = true := decide_eq_true (by omega)
  clear h
  go_enter Tryz.func20, Tryz.ntmps20
  go_wp2
  go_ret2
  exact ⟨rfl, Below.refl _ _⟩
set_option maxHeartbeats 2000000 in
set_option maxRecDepth 100000 in
theorem uns_0y (s : ByteArray) (L n : Nat) (w : World) (hem : s.toList.isEmpty = false) (hsz : s.size = L) (hL : L ≤ 100000) (hn0 : 1 ≤ n) (hn : n ≤ 4096) (hidx : ∀ W : World, (Instr.index 9 (.string s) (.int .i64 0)).run Tryz.prog W = .ok (.int .u8 0) W) (p1 : Nat) (hp : p1 = n + 1) (h : p1 ≤ L) (out : List Nat) (hol : out.length = n) (holt : ∀ x ∈ out, x < 256)
    (hmid : ∀ W : World, (Instr.slice 9 (.string s) (some (.int .i64 1)) (some (.int .i64 (p1 : Int))) none).run Tryz.prog W = .ok (.string (strOf out)) W) :
    Calls Tryz.prog 20 #[.string s, .int .i64 (n : Int)] w fun e w' => ShrP w' e (if ∀ x ∈ out, x < 28 then some (out, p1) else none) ∧ Below w.heap.size w w' := by
  have n0 : decide ((n : Int) < 0) = false := decide_eq_false (by omega)
  have n1 : decide ((4096 : Int) < (n : Int)) = false := decide_eq_false (by omega)
  have n2 : decide (4096 < n) = false := decide_eq_false (by omega)
  have d3 : decide ((L : Int) - 1 < (n : Int)) = false := decide_eq_false (by omega)
  have hp1 : (1 : Int) + (n : Int) = (p1 : Int) := by omega
  have b1 : p1 ≤ 5000 := by omega
  obtain ⟨kk, hkk⟩ : ∃ kk, kk = p1 := ⟨_, rfl⟩
  rw [← hkk]
  obtain ⟨res, hres⟩ : ∃ res, res = if ∀ x ∈ out, x < 28 then some (out, kk) else none := ⟨_, rfl⟩
  rw [← hres]
  have Hres := Lib.hid hres
  have Hlt := Lib.hid holt
  have Hm : Hid (n = out.length) := Lib.hid hol.symm
  obtain ⟨w1, g1, k1, hconv, hr1, hA1, hb1⟩ := conv_r w out holt
  clear hA1
  generalize (some (⟨g1, 0, none⟩ : Addr)) = A1 at hconv hr1
  have HR := Lib.hid hr1
  have HB := Lib.hid hb1
  rw [hol] at hconv
  subst hkk
  clear hp h holt hol hres hr1 hb1
  generalize strOf out = so at *
  go_enter Tryz.func20, Tryz.ntmps20
  go_wp2
  obtain ⟨m, hm⟩ : ∃ m, m = n := ⟨_, rfl⟩
  rw [← hm] at Hm ⊢
  have hm2 : m ≤ 5000 := by omega
  clear hm hconv
  go_loopw [11] (fun i wt => wt = w1 ∧ ∃ j : Nat, i = .int .i64 (j : Int) ∧ j ≤ m ∧ Hid (∀ x ∈ out.take j, x < 28)) (fun i _ => m - (intOf i).toNat)
  case atStart => exact ⟨rfl, 0, rfl, Nat.zero_le _, Lib.hid (by simp)⟩
  case round =>
    obtain ⟨rfl, j, rfl, hj, hall⟩ := hrel
    by_cases hjm : j < m
    · have hjl : j < out.length := by rw [← Hm.out]; exact hjm
      obtain ⟨g, off, rfl, hc⟩ := reads_u8 HR.out (by intro e; rw [e] at hjl; simp at hjl)
      have q1 := hc j hjl
      have hx := Hlt.out out[j] (List.getElem_mem hjl)
      have Hin := Lib.hid (List.getElem_mem hjl)
      have Htk : Hid (out.take (j + 1) = out.take j ++ [out[j]]) := Lib.hid (by rw [List.take_add_one, List.getElem?_eq_getElem hjl]; rfl)
      have dj : decide ((j : Int) < (m : Int)) = true := decide_eq_true (by omega)
      clear hc
      generalize out[j] = x at *
      by_cases h28 : 28 ≤ x
      · have e1 : decide (28 ≤ x) = true := decide_eq_true h28
        have e2 : decide ((28 : Int) ≤ (x : Int)) = true := decide_eq_true (by omega)
        have Hn : Hid (res = none) := Lib.hid (by rw [Hres.out, if_neg (fun h => by have := h x Hin.out; omega)])
        clear hall Htk HR h28 Hin
        go_wp2
        go_ret2
        exact ⟨by rw [Hn.out]; rfl, HB.out⟩
      · have e1 : decide (28 ≤ x) = false := decide_eq_false h28
        have e2 : decide ((28 : Int) ≤ (x : Int)) = false := decide_eq_false (by omega)
        have Hall2 : Hid (∀ y ∈ out.take (j + 1), y < 28) := Lib.hid (fun y hy => by
          rw [Htk.out] at hy
          rcases List.mem_append.1 hy with hy | hy
          · exact hall.out y hy
          · rw [List.mem_singleton.1 hy]; omega)
        clear hall Htk h28 Hin
        go_wp2
        go_roundw
        case rel => exact ⟨trivial, j + 1, by go_num, by omega, Hall2⟩
        case measure => simp [intOf]; omega
    · obtain rfl : j = m := by omega
      have Hn : Hid (res = some (out, kk)) := Lib.hid (by
        have h := hall.out
        rw [Hm.out, List.take_length] at h
        rw [Hres.out, if_pos h])
      have dj : decide ((j : Int) < (j : Int)) = false := decide_eq_false (by omega)
      clear hall
      go_wp2
      go_ret2
      exact ⟨by rw [Hn.out]; unfold ShrP; dsimp only; rw [← Hm.out]; exact ⟨_, _, rfl, HR.out⟩, HB.out⟩
set_option maxHeartbeats 2000000 in
set_option maxRecDepth 100000 in
theorem uns_1n (s : ByteArray) (L n : Nat) (w : World) (hem : s.toList.isEmpty = false) (hsz : s.size = L) (hL : L ≤ 100000) (hn0 : 1 ≤ n) (hn : n ≤ 4096) (hidx : ∀ W : World, (Instr.index 9 (.string s) (.int .i64 0)).run Tryz.prog W = .ok (.int .u8 1) W) (h : L = 1) :
    Calls Tryz.prog 20 #[.string s, .int .i64 (n : Int)] w fun e w' => ShrP w' e none ∧ Below w.heap.size w w' := by
  have n0 : decide ((n : Int) < 0) = false := decide_eq_false (by omega)
  have n1 : decide ((4096 : Int) < (n : Int)) = false := decide_eq_false (by omega)
  have n2 : decide (4096 < n) = false := decide_eq_false (by omega)
  subst h
  go_enter Tryz.func20, Tryz.ntmps20
  go_wp2
  go_ret2
  exact ⟨rfl, Below.refl _ _⟩
set_option maxHeartbeats 2000000 in
set_option maxRecDepth 100000 in
theorem uns_1g (s : ByteArray) (L n : Nat) (w : World) (hem : s.toList.isEmpty = false) (hsz : s.size = L) (hL : L ≤ 100000) (hn0 : 1 ≤ n) (hn : n ≤ 4096) (b : Nat) (hb : 28 ≤ b) (hb2 : b < 256) (hidx : ∀ W : World, (Instr.index 9 (.string s) (.int .i64 0)).run Tryz.prog W = .ok (.int .u8 1) W)
    (hidx1 : ∀ W : World, (Instr.index 9 (.string s) (.int .i64 1)).run Tryz.prog W = .ok (.int .u8 (b : Int)) W) (h : 2 ≤ L) :
    Calls Tryz.prog 20 #[.string s, .int .i64 (n : Int)] w fun e w' => ShrP w' e none ∧ Below w.heap.size w w' := by
  have n0 : decide ((n : Int) < 0) = false := decide_eq_false (by omega)
  have n1 : decide ((4096 : Int) < (n : Int)) = false := decide_eq_false (by omega)
  have n2 : decide (4096 < n) = false := decide_eq_false (by omega)
  have d1 : decide ((L : Int) < 2) = false := decide_eq_false (by omega)
  have d2 : decide ((28 : Int) ≤ (b : Int)) = true := decide_eq_true (by omega)
  have d3 : decide (28 ≤ b) = true := decide_eq_true (by omega)
  have d4 : decide (L < 2) = false := decide_eq_false (by omega)
  clear h
  go_enter Tryz.func20, Tryz.ntmps20
  go_wp2
  go_ret2
  exact ⟨rfl, Below.refl _ _⟩
set_option maxHeartbeats 2000000 in
set_option maxRecDepth 100000 in
theorem uns_1y (s : ByteArray) (L n : Nat) (w : World) (hem : s.toList.isEmpty = false) (hsz : s.size = L) (hL : L ≤ 100000) (hn0 : 1 ≤ n) (hn : n ≤ 4096) (b : Nat) (hb : b < 28) (hidx : ∀ W : World, (Instr.index 9 (.string s) (.int .i64 0)).run Tryz.prog W = .ok (.int .u8 1) W)
    (hidx1 : ∀ W : World, (Instr.index 9 (.string s) (.int .i64 1)).run Tryz.prog W = .ok (.int .u8 (b : Int)) W) (h : 2 ≤ L) :
    Calls Tryz.prog 20 #[.string s, .int .i64 (n : Int)] w fun e w' => ShrP w' e (if ∀ x ∈ List.replicate n b, x < 28 then some (List.replicate n b, 2) else none) ∧ Below w.heap.size w w' := by
  have n0 : decide ((n : Int) < 0) = false := decide_eq_false (by omega)
  have n1 : decide ((4096 : Int) < (n : Int)) = false := decide_eq_false (by omega)
  have n2 : decide (4096 < n) = false := decide_eq_false (by omega)
  have d1 : decide ((L : Int) < 2) = false := decide_eq_false (by omega)
  have d2 : decide ((28 : Int) ≤ (b : Int)) = false := decide_eq_false (by omega)
  have d3 : decide (28 ≤ b) = false := decide_eq_false (by omega)
  have d4 : decide (L < 2) = false := decide_eq_false (by omega)
  clear h
  obtain ⟨i0, hi, hz0, hz1, hz2⟩ := info_parts info_u8
  obtain ⟨kk, hkk⟩ : ∃ kk, kk = 2 := ⟨_, rfl⟩
  obtain ⟨out, hout⟩ : ∃ out, out = List.replicate n b := ⟨_, rfl⟩
  rw [← hkk, ← hout]
  obtain ⟨res, hres⟩ : ∃ res, res = if ∀ x ∈ out, x < 28 then some (out, kk) else none := ⟨_, rfl⟩
  rw [← hres]
  have Hres := Lib.hid hres
  have Hout := Lib.hid hout
  have Hkk := Lib.hid hkk
  have Hlt : Hid (∀ x ∈ out, x < 256) := Lib.hid (fun x hx => by rw [hout, List.mem_replicate] at hx; omega)
  have Hm : Hid (n = out.length) := Lib.hid (by rw [hout, List.length_replicate])
  clear hres hout hkk
  go_enter Tryz.func20, Tryz.ntmps20
  go_wp2
  go_loopw [6, 8] (fun u i wr => ∃ k : Nat, i = .int .i64 (k : Int) ∧ k ≤ n ∧ Hid (wr.ownsRow w.heap.size 5 1 u k (u8s (List.replicate k b))) ∧ Hid (Below w.heap.size w wr)) (fun _ i _ => n - (intOf i).toNat)
  case atStart => exact ⟨0, rfl, Nat.zero_le _, Lib.hid (World.ownsRow_nil _ _ _ _), Lib.hid (Below.refl _ _)⟩
  case round =>
    obtain ⟨k, rfl, hk, hown, hbel⟩ := hrel
    by_cases hkn : k < n
    · have dk : decide ((k : Int) < (n : Int)) = true := decide_eq_true (by omega)
      have hwb : (b : Int) % 256 = (b : Int) := by omega
      go_wp2_with (at_builtin; refine wpList_append_own _ rfl _ _ 45 rfl w.heap.size 5 i0 (.int .u8 0) 1 1 Tryz.underlying45 hi hz0 hz1 hz2 rfl (by decide) _ _ _ rfl (hown.out.alloc _) ⟨wr.heap.size, 0, none⟩ 1 1 [.int .u8 (b : Int)] rfl rfl ?d1 ?d2 ?d3 ?d4 ?d5 ?_)
      case d1 =>
        intro j u hj
        match j, hj with
        | 0, hj => simp at hj; subst hj; simp [Addr.add]
      case d2 => intro u hu; simp at hu; subst hu; rfl
      case d3 => unfold maxLen; omega
      case d4 => omega
      case d5 => have := hbel.out.size; simp; omega
      intro u' w7 hown7 hgr7 _
      have hbel7 : Below w.heap.size w w7 := (hbel.out.alloc hbel.out.size _).grown hgr7 (by have := hbel.out.size; simp; omega) (fun x e => (hown.out.lt x e).1)
      have e : u8s (List.replicate k b) ++ [Value.int .u8 (b : Int)] = u8s (List.replicate (k + 1) b) := by rw [List.replicate_succ']; simp [u8s]
      rw [e] at hown7
      have Hown7 := Lib.hid hown7
      have Hbel7 := Lib.hid hbel7
      clear hown7 hgr7 hbel7 e hown hbel
      go_wp2
      go_roundw
      case rel => exact ⟨k + 1, by go_num, by omega, Hown7, Hbel7⟩
      case measure => simp [intOf]; omega
    · obtain rfl : k = n := by omega
      have dk : decide ((k : Int) < (k : Int)) = false := decide_eq_false (by omega)
      obtain ⟨A, c, hA, hrd, _⟩ := own_reads hown.out
      rw [← Hout.out] at hrd
      have HR := Lib.hid hrd
      have HB := hbel
      rw [hA]
      clear hown hrd hA hbel
      go_wp2
      rw [show (2 : Int) = (kk : Int) by rw [Hkk.out]; rfl]
      have hkk2 : kk ≤ 2 := by rw [Hkk.out]; omega
      obtain ⟨m, hm⟩ : ∃ m, m = k := ⟨_, rfl⟩
      rw [← hm] at Hm ⊢
      have hm2 : m ≤ 5000 := by omega
      clear hm Hkk Hout
      go_loopw [11] (fun i wt => wt = wr ∧ ∃ j : Nat, i = .int .i64 (j : Int) ∧ j ≤ m ∧ Hid (∀ x ∈ out.take j, x < 28)) (fun i _ => m - (intOf i).toNat)
      case atStart => exact ⟨rfl, 0, rfl, Nat.zero_le _, Lib.hid (by simp)⟩
      case round =>
        obtain ⟨rfl, j, rfl, hj, hall⟩ := hrel
        by_cases hjm : j < m
        · have hjl : j < out.length := by rw [← Hm.out]; exact hjm
          obtain ⟨g, off, rfl, hc⟩ := reads_u8 HR.out (by intro e; rw [e] at hjl; simp at hjl)
          have q1 := hc j hjl
          have hx := Hlt.out out[j] (List.getElem_mem hjl)
          have Hin := Lib.hid (List.getElem_mem hjl)
          have Htk : Hid (out.take (j + 1) = out.take j ++ [out[j]]) := Lib.hid (by rw [List.take_add_one, List.getElem?_eq_getElem hjl]; rfl)
          have dj : decide ((j : Int) < (m : Int)) = true := decide_eq_true (by omega)
          clear hc
          generalize out[j] = x at *
          by_cases h28 : 28 ≤ x
          · have e1 : decide (28 ≤ x) = true := decide_eq_true h28
            have e2 : decide ((28 : Int) ≤ (x : Int)) = true := decide_eq_true (by omega)
            have Hn : Hid (res = none) := Lib.hid (by rw [Hres.out, if_neg (fun h => by have := h x Hin.out; omega)])
            clear hall Htk HR h28 Hin
            go_wp2
            go_ret2
            exact ⟨by rw [Hn.out]; rfl, HB.out⟩
          · have e1 : decide (28 ≤ x) = false := decide_eq_false h28
            have e2 : decide ((28 : Int) ≤ (x : Int)) = false := decide_eq_false (by omega)
            have Hall2 : Hid (∀ y ∈ out.take (j + 1), y < 28) := Lib.hid (fun y hy => by
              rw [Htk.out] at hy
              rcases List.mem_append.1 hy with hy | hy
              · exact hall.out y hy
              · rw [List.mem_singleton.1 hy]; omega)
            clear hall Htk h28 Hin
            go_wp2
            go_roundw
            case rel => exact ⟨trivial, j + 1, by go_num, by omega, Hall2⟩
            case measure => simp [intOf]; omega
        · obtain rfl : j = m := by omega
          have Hn : Hid (res = some (out, kk)) := Lib.hid (by
            have h := hall.out
            rw [Hm.out, List.take_length] at h
            rw [Hres.out, if_pos h])
          have dj : decide ((j : Int) < (j : Int)) = false := decide_eq_false (by omega)
          clear hall
          go_wp2
          go_ret2
          exact ⟨by rw [Hn.out]; unfold ShrP; dsimp only; rw [← Hm.out]; exact ⟨_, _, rfl, HR.out⟩, HB.out⟩
set_option maxHeartbeats 2000000 in
set_option maxRecDepth 100000 in
theorem uns_2 (s : ByteArray) (L n : Nat) (w : World) (hem : s.toList.isEmpty = false) (hsz : s.size = L) (hL : L ≤ 100000) (hn0 : 1 ≤ n) (hn : n ≤ 4096) (t : List Nat) (hidx : ∀ W : World, (Instr.index 9 (.string s) (.int .i64 0)).run Tryz.prog W = .ok (.int .u8 2) W) (htl : t.length ≤ 100000) (htlt : ∀ x ∈ t, x < 256)
    (hfrom : ∀ W : World, (Instr.slice 9 (.string s) (some (.int .i64 1)) none none).run Tryz.prog W = .ok (.string (strOf t)) W) :
    Calls Tryz.prog 20 #[.string s, .int .i64 (n : Int)] w fun e w' => ShrP w' e (match (Bm.sharedD t n).map fun r => (r.1, 1 + r.2) with | none => none | some r => if ∀ x ∈ r.1, x < 28 then some r else none) ∧ Below w.heap.size w w' := by
  have n0 : decide ((n : Int) < 0) = false := decide_eq_false (by omega)
  have n1 : decide ((4096 : Int) < (n : Int)) = false := decide_eq_false (by omega)
  have n2 : decide (4096 < n) = false := decide_eq_false (by omega)
  have hsh := fun W => qrshared_any t n W htl htlt (by omega)
  cases hd : Bm.sharedD t n with
  | none =>
    rw [hd] at hsh
    have Hsh := Lib.hid hsh
    clear hsh hd
    rw [Option.map_none]
    generalize strOf t = st at *
    go_enter Tryz.func20, Tryz.ntmps20
    go_wp2_with fail
    refine (Hsh.out _).mono ?_
    rintro e w1 ⟨rfl, hb1⟩
    have Hb1 := Lib.hid hb1
    clear hb1 Hsh
    go_wp2
    go_ret2
    exact ⟨rfl, Hb1.out⟩
  | some r =>
    obtain ⟨out, k⟩ := r
    obtain ⟨h1, h2⟩ := Bm.shared_mem t n out k htlt hd
    obtain ⟨h3, h4⟩ := Bm.shared_pos t n _ hd
    dsimp only at h3 h4
    rw [hd] at hsh
    have Hsh := Lib.hid hsh
    rw [Option.map_some]
    dsimp only
    obtain ⟨kk, hkk⟩ : ∃ kk, kk = 1 + k := ⟨_, rfl⟩
    rw [← hkk]
    have hki : (1 : Int) + (k : Int) = (kk : Int) := by omega
    have k0 : ((k : Int) == 0) = false := by rw [beq_eq_false_iff_ne]; omega
    have hkb : kk ≤ 200000 := by omega
    obtain ⟨res, hres⟩ : ∃ res, res = if ∀ x ∈ out, x < 28 then some (out, kk) else none := ⟨_, rfl⟩
    rw [← hres]
    have Hres := Lib.hid hres
    have Hlt := Lib.hid h2
    have Hm : Hid (n = out.length) := Lib.hid h1.symm
    clear hsh hd hkk hres h2 h3 htlt htl
    clear h4
    generalize strOf t = st at *
    go_enter Tryz.func20, Tryz.ntmps20
    go_wp2_with fail
    refine (Hsh.out _).mono ?_
    rintro e w1 ⟨⟨A1, c1, rfl, hr1⟩, hb1⟩
    have HB := Lib.hid hb1
    have HR := Lib.hid hr1
    clear hb1 hr1 Hsh
    dsimp only
    rw [h1]
    clear h1
    go_wp2
    obtain ⟨m, hm⟩ : ∃ m, m = n := ⟨_, rfl⟩
    rw [← hm] at Hm ⊢
    have hm2 : m ≤ 5000 := by omega
    clear hm
    go_loopw [11] (fun i wt => wt = w1 ∧ ∃ j : Nat, i = .int .i64 (j : Int) ∧ j ≤ m ∧ Hid (∀ x ∈ out.take j, x < 28)) (fun i _ => m - (intOf i).toNat)
    case atStart => exact ⟨rfl, 0, rfl, Nat.zero_le _, Lib.hid (by simp)⟩
    case round =>
      obtain ⟨rfl, j, rfl, hj, hall⟩ := hrel
      by_cases hjm : j < m
      · have hjl : j < out.length := by rw [← Hm.out]; exact hjm
        obtain ⟨g, off, rfl, hc⟩ := reads_u8 HR.out (by intro e; rw [e] at hjl; simp at hjl)
        have q1 := hc j hjl
        have hx := Hlt.out out[j] (List.getElem_mem hjl)
        have Hin := Lib.hid (List.getElem_mem hjl)
        have Htk : Hid (out.take (j + 1) = out.take j ++ [out[j]]) := Lib.hid (by rw [List.take_add_one, List.getElem?_eq_getElem hjl]; rfl)
        have dj : decide ((j : Int) < (m : Int)) = true := decide_eq_true (by omega)
        clear hc
        generalize out[j] = x at *
        by_cases h28 : 28 ≤ x
        · have e1 : decide (28 ≤ x) = true := decide_eq_true h28
          have e2 : decide ((28 : Int) ≤ (x : Int)) = true := decide_eq_true (by omega)
          have Hn : Hid (res = none) := Lib.hid (by rw [Hres.out, if_neg (fun h => by have := h x Hin.out; omega)])
          clear hall Htk HR h28 Hin
          go_wp2
          go_ret2
          exact ⟨by rw [Hn.out]; rfl, HB.out⟩
        · have e1 : decide (28 ≤ x) = false := decide_eq_false h28
          have e2 : decide ((28 : Int) ≤ (x : Int)) = false := decide_eq_false (by omega)
          have Hall2 : Hid (∀ y ∈ out.take (j + 1), y < 28) := Lib.hid (fun y hy => by
            rw [Htk.out] at hy
            rcases List.mem_append.1 hy with hy | hy
            · exact hall.out y hy
            · rw [List.mem_singleton.1 hy]; omega)
          clear hall Htk h28 Hin
          go_wp2
          go_roundw
          case rel => exact ⟨trivial, j + 1, by go_num, by omega, Hall2⟩
          case measure => simp [intOf]; omega
      · obtain rfl : j = m := by omega
        have Hn : Hid (res = some (out, kk)) := Lib.hid (by
          have h := hall.out
          rw [Hm.out, List.take_length] at h
          rw [Hres.out, if_pos h])
        have dj : decide ((j : Int) < (j : Int)) = false := decide_eq_false (by omega)
        clear hall
        go_wp2
        go_ret2
        exact ⟨by rw [Hn.out]; unfold ShrP; dsimp only; rw [← Hm.out]; exact ⟨_, _, rfl, HR.out⟩, HB.out⟩
set_option maxHeartbeats 2000000 in
set_option maxRecDepth 100000 in
theorem uns_3 (s : ByteArray) (L n : Nat) (w : World) (hem : s.toList.isEmpty = false) (hsz : s.size = L) (hL : L ≤ 100000) (hn0 : 1 ≤ n) (hn : n ≤ 4096) (k : Nat) (hk : 2 < k) (hk2 : k < 256) (hidx : ∀ W : World, (Instr.index 9 (.string s) (.int .i64 0)).run Tryz.prog W = .ok (.int .u8 (k : Int)) W) :
    Calls Tryz.prog 20 #[.string s, .int .i64 (n : Int)] w fun e w' => ShrP w' e none ∧ Below w.heap.size w w' := by
  have n0 : decide ((n : Int) < 0) = false := decide_eq_false (by omega)
  have n1 : decide ((4096 : Int) < (n : Int)) = false := decide_eq_false (by omega)
  have n2 : decide (4096 < n) = false := decide_eq_false (by omega)
  have k0 : ((k : Int) == 0) = false := by rw [beq_eq_false_iff_ne]; omega
  have k1 : ((k : Int) == 1) = false := by rw [beq_eq_false_iff_ne]; omega
  have k2 : ((k : Int) == 2) = false := by rw [beq_eq_false_iff_ne]; omega
  clear hk
  go_enter Tryz.func20, Tryz.ntmps20
  go_wp2
  go_loopw [11] (fun i wr => wr = w ∧ i = .int .i64 0) (fun _ _ => 0)
  case atStart => exact ⟨rfl, rfl⟩
  case round =>
    obtain ⟨rfl, rfl⟩ := hrel
    go_wp2
    go_ret2
    exact ⟨rfl, Below.refl _ _⟩
theorem qrunstr_any (l : List Nat) (n : Nat) (w : World) (hl : l.length ≤ 100000) (hlt : ∀ x ∈ l, x < 256) (hn0 : 1 ≤ n) (hn : n ≤ 4096) :
    Calls Tryz.prog 20 #[.string (strOf l), .int .i64 (n : Int)] w fun e w' => ShrP w' e (Bm.strD l n) ∧ Below w.heap.size w w' := by
  cases l with
  | nil => exact uns_nil n w
  | cons k t =>
    have hem : (strOf (k :: t)).toList.isEmpty = false := by rw [emptyB]; simp
    have hsz := strOf_size (k :: t)
    rw [List.length_cons] at hsz hl
    have hk : k < 256 := hlt k List.mem_cons_self
    have htlt : ∀ x ∈ t, x < 256 := fun x hx => hlt x (List.mem_cons_of_mem _ hx)
    have hidx : ∀ W : World, (Instr.index 9 (.string (strOf (k :: t))) (.int .i64 0)).run Tryz.prog W = .ok (.int .u8 (k : Int)) W := fun W => index_at (k :: t) 0 W (by simp) hk
    have hfrom := fun W => str_from (k :: t) 1 (by simp) W
    rw [Bm.str_read]
    by_cases h0 : k = 0
    · subst h0
      rw [Bm.read_0]
      by_cases h : n ≤ t.length
      · rw [if_pos h]
        have hmid := fun W => str_cut (0 :: t) 1 (n + 1) (by omega) (by rw [List.length_cons]; omega) W
        rw [List.take_succ_cons, List.drop_succ_cons, List.drop_zero] at hmid
        have hu := uns_0y (strOf (0 :: t)) (t.length + 1) n w hem hsz hl hn0 hn hidx (n + 1) rfl (by omega) (t.take n) (by rw [List.length_take]; omega) (fun x hx => htlt x (List.mem_of_mem_take hx)) hmid
        rw [Nat.add_comm n 1] at hu
        exact hu
      · rw [if_neg h]
        exact uns_0n (strOf (0 :: t)) (t.length + 1) n w hem hsz hl hn0 hn hidx (by omega)
    · by_cases h1 : k = 1
      · subst h1
        rw [Bm.read_1]
        cases t with
        | nil =>
          rw [if_neg (by simp)]
          exact uns_1n _ 1 n w hem hsz (by omega) hn0 hn hidx rfl
        | cons b t =>
          rw [if_pos (by simp), List.getElem?_cons_zero, Option.getD_some]
          have hb := htlt b List.mem_cons_self
          have hidx1 : ∀ W : World, (Instr.index 9 (.string (strOf (1 :: b :: t))) (.int .i64 1)).run Tryz.prog W = .ok (.int .u8 (b : Int)) W := fun W => index_at (1 :: b :: t) 1 W (by simp) hb
          rw [List.length_cons] at hsz hl
          by_cases hg : 28 ≤ b
          · have hno : ¬ ∀ x ∈ (List.replicate n b, 2).1, x < 28 := fun h => by
              have := h b (List.mem_replicate.2 ⟨by omega, rfl⟩)
              omega
            dsimp only
            rw [if_neg hno]
            exact uns_1g _ _ n w hem hsz hl hn0 hn b hg hb hidx hidx1 (by omega)
          · exact uns_1y _ _ n w hem hsz hl hn0 hn b (by omega) hidx hidx1 (by omega)
      · by_cases h2 : k = 2
        · subst h2
          rw [Bm.read_2]
          exact uns_2 _ _ n w hem hsz hl hn0 hn t hidx (by omega) htlt hfrom
        · rw [Bm.read_3 k t n (by omega)]
          exact uns_3 _ _ n w hem hsz hl hn0 hn k (by omega) hk hidx
end Go.Proofs.YtbdciiiimdbmkaaGreat
