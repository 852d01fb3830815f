/-
  The program's layer 16 (seqs): number, tableOf, outOfCode, by their walks. Conditions: as each theorem's premises say.
-/
import Derived.Test.YtbdciiiimdbmkaaGreatGae
import Derived.Test.YtbdciiiimdbmkaaGreatGaz
import Derived.Test.YtbdciiiimdbmkaaGreatGay
import Derived.Test.YtbdciiiimdbmkaaGreatGbi
import Derived.Test.YtbdciiiimdbmkaaGreatGbd
namespace Go.Proofs.YtbdciiiimdbmkaaGreat
open Go.RowKit

/-- What Text of at most 4096 bytes answers. -/
theorem txt_some (t : List Nat) (p : List Nat × Nat) (h : Bm.txtD t = some p) : textS 4096 (some t) = (p.1, some (t.drop p.2)) ∧ p.1.length ≤ 4096 := by
  unfold Bm.txtD at h
  split at h
  · next hc =>
    injection h with h
    subst h
    dsimp only
    unfold textS
    rw [int_yes 4096 t hc.1 (by omega)]
    simp only [rawS]
    rw [if_pos (by rw [List.length_drop]; exact hc.2.2), List.drop_drop]
    exact ⟨rfl, by rw [List.length_take]; omega⟩
  · cases h
theorem txt_none (t : List Nat) (h : Bm.txtD t = none) : textS 4096 (some t) = ([], none) := by
  unfold Bm.txtD at h
  split at h
  · cases h
  · next hc =>
    unfold textS
    by_cases h0 : 0 < (Bm.firstG t).2 ∧ ((Bm.firstG t).1 : Int) ≤ 4096
    · rw [int_yes 4096 t h0.1 h0.2]
      simp only [rawS]
      rw [if_neg (by rw [List.length_drop]; omega)]
    · rw [int_no 4096 t h0]
      rfl
theorem txt_mem (t : List Nat) (p : List Nat × Nat) (h : Bm.txtD t = some p) (hlt : ∀ x ∈ t, x < 256) : ∀ x ∈ p.1, x < 256 := by
  unfold Bm.txtD at h
  split at h
  · injection h with h
    subst h
    exact take_lt (drop_lt hlt _) _
  · cases h

set_option maxHeartbeats 1000000 in
set_option maxRecDepth 100000 in
/-- The number of a code, where its bits are there. -/
theorem qnum_yes (c b pos : Nat) (bs : List Nat) (w : World) (hc : c < 28) (hs : bs.length ≤ 100000) (hbs : ∀ x ∈ bs, x < 256) (hle : pos + Bm.exK c ≤ 8 * bs.length) (h : RS w b 0 bs pos) :
    Calls Tryz.prog 53 #[.int .u8 (c : Int), .pointer (some ⟨b, 0, none⟩)] w fun e w' => e = .returned (.tuple #[.int .i64 (Bm.numK c (Bm.valB bs / 2 ^ pos) : Int), .bool true]) ∧ RS w' b 0 bs (pos + Bm.exK c) ∧ w.grownBy w' (some b) := by
  have hx0 : Bm.exK c ≤ 15 := by unfold Bm.exK; split <;> omega
  have hE : Bm.extraI c = (Bm.exK c : Int) := by unfold Bm.extraI Bm.exK; split; rfl; rw [if_neg (by omega)]
  have Hext := Lib.hid (kextra_at w c (by omega))
  have hmax : max (Bm.extraI c) 0 = (Bm.exK c : Int) := by rw [hE]; omega
  have hdec : decide (0 ≤ Bm.extraI c) = true := decide_eq_true (by rw [hE]; omega)
  rw [hmax, hdec] at Hext
  have Ht := Lib.hid (take_ok b 0 bs pos (Bm.exK c) w (by omega) hbs (by omega) hle h)
  have hm := Nat.mod_lt (Bm.valB bs / 2 ^ pos) (Nat.two_pow_pos (Bm.exK c))
  have hP : 2 ^ Bm.exK c ≤ 2 ^ 15 := Nat.pow_le_pow_right (by omega) hx0
  have h15 : (2 : Nat) ^ 15 = 32768 := by decide
  have hval : Bm.valueK c (Bm.valB bs / 2 ^ pos % 2 ^ Bm.exK c) = some (Bm.numK c (Bm.valB bs / 2 ^ pos)) := by
    unfold Bm.valueK Bm.numK
    unfold Bm.exK at hm ⊢
    by_cases h16 : c < 16
    · simp only [if_pos h16]
      rw [Nat.pow_zero, Nat.mod_one, if_pos rfl]
    · simp only [if_neg h16] at hm ⊢
      rw [if_neg (by omega), if_pos hm]
  have Hv := Lib.hid (fun W => kvalue_is W c (Bm.valB bs / 2 ^ pos % 2 ^ Bm.exK c) (by omega) (by omega))
  rw [hval] at Hv
  dsimp only at Hv
  clear hval hE hmax hdec h hbs hm
  generalize Bm.valB bs / 2 ^ pos % 2 ^ Bm.exK c = m at *
  generalize Bm.numK c (Bm.valB bs / 2 ^ pos) = v at *
  obtain ⟨q, hq⟩ : ∃ q, q = pos + Bm.exK c := ⟨_, rfl⟩
  rw [← hq] at Ht ⊢
  clear hq
  generalize Bm.exK c = x at *
  go_enter Tryz.func53, Tryz.ntmps53
  go_wp2_with fail
  refine Hext.out.mono ?_
  rintro e w' ⟨rfl, rfl⟩
  go_wp2_with fail
  refine Ht.out.mono ?_
  rintro e w2 ⟨rfl, hr2, hg2⟩
  have Hr2 := Lib.hid hr2
  have Hg2 := Lib.hid hg2
  clear hr2 hg2 Ht Hext
  go_wp2_with fail
  refine (Hv.out w2).mono ?_
  rintro e w3 ⟨rfl, hb3⟩
  have Hr3 := Lib.hid (Hr2.out.below hb3)
  have Hg3 := Lib.hid (hgrown_trans Hg2.out (grown_below hb3 _))
  clear hb3 Hr2 Hg2 Hv
  go_wp2
  go_ret2
  exact ⟨rfl, Hr3.out, Hg3.out⟩
set_option maxHeartbeats 1000000 in
set_option maxRecDepth 100000 in
/-- .. and where they aren't. -/
theorem qnum_no (c b pos : Nat) (bs : List Nat) (w : World) (hc : c < 28) (hs : bs.length ≤ 100000) (hp : pos ≤ 8 * bs.length) (hle : 8 * bs.length - pos < Bm.exK c) (h : RS w b 0 bs pos) :
    Calls Tryz.prog 53 #[.int .u8 (c : Int), .pointer (some ⟨b, 0, none⟩)] w fun e w' => (∃ v : Int, e = .returned (.tuple #[.int .i64 v, .bool false])) ∧ w.grownBy w' (some b) := by
  have hx0 : Bm.exK c ≤ 15 := by unfold Bm.exK; split <;> omega
  have hE : Bm.extraI c = (Bm.exK c : Int) := by unfold Bm.extraI Bm.exK; split; rfl; rw [if_neg (by omega)]
  have Hext := Lib.hid (kextra_at w c (by omega))
  have hmax : max (Bm.extraI c) 0 = (Bm.exK c : Int) := by rw [hE]; omega
  have hdec : decide (0 ≤ Bm.extraI c) = true := decide_eq_true (by rw [hE]; omega)
  rw [hmax, hdec] at Hext
  have Ht := Lib.hid (take_few b 0 bs pos (Bm.exK c) w (by omega) hp (by omega) hle h)
  have Hv : Hid (∀ W, Calls Tryz.prog 77 #[.int .u8 (c : Int), .int .u32 0] W fun e w' => (∃ (v : Int) (z : Bool), e = .returned (.tuple #[.int .i64 v, .bool z])) ∧ Below W.heap.size W w') := Lib.hid (fun W => (kvalue_is W c 0 (by omega) (by omega)).mono fun e w' ⟨he, hb⟩ => ⟨by
    cases hv : Bm.valueK c 0 with
    | none => rw [hv] at he; exact ⟨_, _, he⟩
    | some g => rw [hv] at he; exact ⟨_, _, he⟩, hb⟩)
  clear hE hmax hdec h hle
  generalize Bm.exK c = x at *
  go_enter Tryz.func53, Tryz.ntmps53
  go_wp2_with fail
  refine Hext.out.mono ?_
  rintro e w' ⟨rfl, rfl⟩
  go_wp2_with fail
  refine Ht.out.mono ?_
  rintro e w2 ⟨rfl, k, rfl⟩
  clear Ht Hext
  go_wp2_with fail
  refine (Hv.out _).mono ?_
  rintro e w3 ⟨⟨v, z, rfl⟩, hb3⟩
  have Hg3 := Lib.hid (hgrown_trans (grown_drewN (grown_refl w (some b)) k) (grown_below hb3 _))
  clear hb3 Hv
  go_wp2
  go_ret2
  exact ⟨⟨v, rfl⟩, Hg3.out⟩

/-- A table, or none. -/
def TabP (w' : World) (e : Ending) : Option (List Nat × Nat) → Prop
  | none => e = .returned (.tuple #[.pointer none, .bool false])
  | some t => ∃ p, e = .returned (.tuple #[.pointer (some p), .bool true]) ∧ STab w' p t.1 t.2
namespace Bm
theorem headD_fair (hd : List Nat) (t : List Nat × Nat) (h : headD hd = some t) : FairN t.1 t.2 := by
  unfold headD at h
  split at h
  · cases h
  · next u hu =>
    split at h
    · injection h with h
      subst h
      exact (takeA_fair _ _ u.1 u.2.1 u.2.2 hu).1
    · cases h
end Bm
set_option maxHeartbeats 2000000 in
set_option maxRecDepth 100000 in
theorem qtab_any (hd : List Nat) (w : World) (hl : hd.length ≤ 4096) (hlt : ∀ x ∈ hd, x < 256) :
    Calls Tryz.prog 95 #[.string (strOf hd)] w fun e w' => TabP w' e (Bm.headD hd) ∧ Below w.heap.size w w' := by
  obtain ⟨w1, cap, hconv, hcell, hb1⟩ := conv_back w hd hlt
  have hrs : Reads w1 (some ⟨w.heap.size, 0, none⟩) (u8s hd) := fun _ => ⟨_, _, rfl, fun j hj => by
    rw [u8s_length] at hj
    rw [Nat.zero_add, hcell j hj, u8s_get? hd j hj]⟩
  have Hnew := Lib.hid (newr_any (some ⟨w.heap.size, 0, none⟩) cap hd w1 hlt hrs)
  have Hb1 := Lib.hid hb1
  have htake := fun W b (h : RS W b 0 hd 0) => hdtake_far W b 0 0 hd (by omega) hlt (by omega) h
  rw [Nat.pow_zero, Nat.div_one, Nat.sub_zero] at htake
  have Hends := Lib.hid (fun W b pos (hp : pos ≤ 8 * hd.length) (h : RS W b 0 hd pos) => zends_any b pos hd W (by omega) hlt hp h)
  have hres : Bm.headD hd = (match Bm.takeA (Bm.valB hd) (8 * hd.length) with | none => none | some t => if Bm.restB (Bm.valB hd) (8 * hd.length) t.2.2 = true then some (t.1, t.2.1) else none) := rfl
  rw [hres]
  have hfair := fun l lg e' (h : Bm.takeA (Bm.valB hd) (8 * hd.length) = some (l, lg, e')) => Bm.takeA_fair _ _ l lg e' h
  clear hres hcell hrs hb1
  cases htk : Bm.takeA (Bm.valB hd) (8 * hd.length) with
  | none =>
    rw [htk] at htake
    unfold TakeF at htake
    dsimp only at htake ⊢
    have Htk := Lib.hid htake
    clear htake hfair htk hlt
    generalize strOf hd = sd at *
    go_enter Tryz.func95, Tryz.ntmps95
    go_wp2_with fail
    refine Hnew.out.mono ?_
    rintro e w2 ⟨rfl, hr2, hb2⟩
    have Ht2 := Lib.hid (Htk.out w2 _ hr2)
    have Hb2 := Lib.hid (Hb1.out.trans (hb2.mono Hb1.out.size))
    have Hsz := Lib.hid Hb1.out.size
    clear hr2 hb2 Hnew Hb1 Htk hconv
    go_wp2_with fail
    refine Ht2.out.mono ?_
    rintro e w3 ⟨⟨A, c, rfl⟩, hg3, _⟩
    have Hb3 := Lib.hid (Hb2.out.grown hg3 Hb2.out.size (fun x e => by injection e with e; have := Hsz.out; omega))
    clear hg3 Ht2 Hb2
    go_wp2
    go_ret2
    exact ⟨rfl, Hb3.out⟩
  | some t =>
    obtain ⟨ls, lg, e'⟩ := t
    obtain ⟨hf, he'⟩ := hfair ls lg e' htk
    rw [htk] at htake
    unfold TakeF at htake
    dsimp only at htake ⊢
    have Htk := Lib.hid htake
    have hfl := hf.len
    have hfI := Bm.fairN_fair ls lg hf
    have h9 := hf.high
    have Hbuild : Hid (∀ A c W, Reads W A (i64s ls) → Calls Tryz.prog 88 #[.slice A ls.length c, .int .i64 (lg : Int)] W fun e w' => ∃ p, e = .returned (.tuple #[.pointer (some p), .bool true]) ∧ STab w' p ls lg ∧ Below W.heap.size W w') := Lib.hid (fun A c W h1 => by
      have h2 := tab_is.build A c (ls.map (fun n : Nat => (n : Int))) (lg : Int) W (by rw [List.length_map]; omega) (fun x hx => by
        have := hfI.2.2.2.1 x hx
        unfold Bm.IntOk; omega) (by unfold Bm.IntOk; omega) (by rw [i64z_nat]; exact h1) hfI
      rw [List.length_map, Int.toNat_natCast] at h2
      have hlsn : (ls.map (fun n : Nat => (n : Int))).map Int.toNat = ls := by
        rw [List.map_map]
        conv => rhs; rw [← List.map_id ls]
        apply List.map_congr_left
        intro x _
        rfl
      rw [hlsn] at h2
      exact h2)
    have hen : ∀ W b, RS W b 0 hd (8 * hd.length - e') → Calls Tryz.prog 55 #[.pointer (some ⟨b, 0, none⟩)] W fun e w' => e = .returned (.bool (Bm.restB (Bm.valB hd) (8 * hd.length) e')) ∧ W.grownBy w' (some b) := fun W b h => by
      have h1 := Hends.out W b (8 * hd.length - e') (by omega) h
      rw [show 8 * hd.length - (8 * hd.length - e') = e' by omega] at h1
      exact h1
    have Hen := Lib.hid hen
    clear htake hfair htk hlt hfI hf Hends hen
    generalize Bm.restB (Bm.valB hd) (8 * hd.length) e' = r at *
    generalize strOf hd = sd at *
    go_enter Tryz.func95, Tryz.ntmps95
    go_wp2_with fail
    refine Hnew.out.mono ?_
    rintro e w2 ⟨rfl, hr2, hb2⟩
    have Ht2 := Lib.hid (Htk.out w2 _ hr2)
    have Hb2 := Lib.hid (Hb1.out.trans (hb2.mono Hb1.out.size))
    have hsz := Hb1.out.size
    have hlt2 := hr2.2.2.2
    clear hr2 hb2 Hnew Hb1 Htk hconv
    generalize w1.heap.size = b at *
    go_wp2_with fail
    refine Ht2.out.mono ?_
    rintro e w3 ⟨⟨A, c, rfl, hrd, hA⟩, hg3, hr3⟩
    have Hb3 := Lib.hid (Hb2.out.grown hg3 Hb2.out.size (fun x e => by injection e with e; omega))
    have Hrd := Lib.hid hrd
    have HA := Lib.hid hA
    have Hen3 := Lib.hid (Hen.out w3 b (hr3 _ rfl))
    clear hg3 Ht2 Hb2 hrd hA hr3 Hen
    go_wp2_with fail
    refine Hen3.out.mono ?_
    rintro e w4 ⟨rfl, hg4⟩
    have Hb4 := Lib.hid (Hb3.out.grown hg4 Hb3.out.size (fun x e => by injection e with e; omega))
    have Hbd := Lib.hid (Hbuild.out A c w4 (reads_keep Hrd.out (fun a e => by have := HA.out a e; omega) hg4))
    clear hg4 Hen3 Hb3 Hrd HA Hbuild
    cases r with
    | false =>
      go_wp2
      go_ret2
      exact ⟨rfl, Hb4.out⟩
    | true =>
      go_wp2_with fail
      refine Hbd.out.mono ?_
      rintro e w5 ⟨p, rfl, hst, hb5⟩
      have Hb5 := Lib.hid (Hb4.out.trans (hb5.mono Hb4.out.size))
      have Hst := Lib.hid hst
      clear hst hb5 Hbd Hb4
      go_wp2
      go_ret2
      exact ⟨⟨p, rfl, Hst.out⟩, Hb5.out⟩
end Go.Proofs.YtbdciiiimdbmkaaGreat
