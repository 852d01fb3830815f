/-
  Layer 3 (cursor): a Writer's String by its walk: all its bytes. Conditions: as each theorem's premises say (up to a thousand million bytes).
-/
import Derived.Test.YtfopnbfaaikghaaCd
import Derived.Lib.BufferWrite
import Derived.StillTailTactics
namespace Go.Proofs.Ytfopnbfaaikghaa
open Go.RowKit

set_option maxHeartbeats 400000 in
set_option maxRecDepth 100000 in
theorem wstr_nil (w : World) : Calls Try.prog 20 #[.pointer none] w fun e w' => e = .returned (.string (strOf [])) ∧ w = w' := by
  go_enter Try.func20, Try.ntmps20
  go_wp2
  go_ret
  exact ⟨rfl, rfl⟩
set_option maxRecDepth 100000 in
theorem slice_at8 (g L q : Nat) (W : World) (h : q < L) : (Instr.slice 64 (.slice (some ⟨g, 0, none⟩) L L) (some (.int .i64 (q : Int))) none none).run Try.prog W = .ok (.slice (some ⟨g, q, none⟩) (L - q) (L - q)) W := by
  have h1 : ¬ L = q := by omega
  have h2 : q ≤ L := by omega
  go_simp
/-- copy of a string into a row from place q on. -/
theorem copy_str {w : World} {g q L : Nat} {cs t : List Nat} (hr : Row w g 5 (u8s cs)) (ht : ∀ x ∈ t, x < 256) (hle : q + t.length ≤ cs.length) (hL : t.length ≤ L) (ty : TypeId) :
    ∃ w', (Builtin.copy_ #[64, 9] ty #[.slice (some ⟨g, q, none⟩) L L, .string (strOf t)]).run Try.prog w = .ok (goInt (t.length : Int)) w' ∧ Row w' g 5 (u8s (cs.take q ++ t ++ cs.drop (q + t.length))) ∧ w.grownBy w' (some g) := by
  have hu8 : (Try.prog.info? 5).map (·.size) = some 1 := by kernel_rfl
  have h := Lib.run_copy_row_string (P := Try.prog) w 64 9 ty 5 g q L L (strOf t) (u8s cs).toArray 5 Try.underlying64 hu8 hr (by rw [strOf_size]; exact hL) (by rw [strOf_size]; simpa [u8s] using hle)
  rw [strOf_size] at h
  have hb : Lib.byteCells (strOf t).data.toList = u8s t := by
    simp only [Lib.byteCells, strOf, u8s, List.map_map]
    apply List.map_congr_left
    intro x hx
    simp [UInt8.toNat_ofNat_of_lt' (ht x hx)]
  rw [hb] at h
  refine ⟨_, h, ?_, ?_⟩
  · have e : (u8s cs).take q ++ u8s t ++ (u8s cs).drop (q + t.length) = u8s (cs.take q ++ t ++ cs.drop (q + t.length)) := by simp [u8s, List.map_take, List.map_drop]
    rw [← e]
    exact setRow_heap w g _ _ 5 _ hr
  · exact ⟨rfl, rfl, rfl, by simp [World.setRow], fun k _ hn => setRow_other w g k _ (fun e => hn (by rw [e]))⟩
theorem rem_step (r L : Nat) (t suf : List Nat) (ht : t.length = L) : (List.replicate (r + L) 0 ++ suf).take r ++ t ++ (List.replicate (r + L) 0 ++ suf).drop (r + L) = List.replicate r 0 ++ (t ++ suf) := by
  rw [List.take_append_of_le_length (by simp), List.take_replicate, Nat.min_eq_left (by omega), List.drop_append, List.length_replicate, Nat.sub_self, List.drop_zero, List.drop_of_length_le (by simp), List.nil_append, List.append_assoc]

set_option maxHeartbeats 1000000 in
set_option maxRecDepth 100000 in
theorem wstr_any (b : Nat) (bs : List Nat) (w : World) (hl : bs.length ≤ 100000000) (hbs : ∀ x ∈ bs, x < 256) (h : CW w b bs) :
    Calls Try.prog 20 #[.pointer (some ⟨b, 0, none⟩)] w fun e w' => e = .returned (.string (strOf bs)) ∧ Below w.heap.size w w' := by
  obtain ⟨i0, hi, hz0, hz1, hz2⟩ := info_parts info_u8
  obtain ⟨p, ts, h0, hc, e⟩ := h
  have c0 := h0.cell 0
  have c1 := h0.cell 1
  have hbl := h0.lt
  simp only [List.getElem?_cons_zero, List.getElem?_cons_succ] at c0 c1
  have Hc := Lib.hid hc
  have He := Lib.hid e
  have Hbs := Lib.hid hbs
  clear h0 hc e hbs
  obtain ⟨n, hn⟩ : ∃ n, n = bs.length := ⟨_, rfl⟩
  rw [← hn] at c1 hl
  have Hn := Lib.hid hn
  obtain ⟨all, hall⟩ : ∃ s, s = strOf bs := ⟨_, rfl⟩
  rw [← hall]
  have Hall := Lib.hid hall
  clear hn hall
  go_enter Try.func20, Try.ntmps20
  go_wp2_with (at_make; refine wpList_make_full _ rfl _ _ 64 rfl w.heap.size 5 i0 (.int .u8 0) 1 Try.underlying64 hi hz0 hz1 .i64 .i64 _ _ n rfl rfl ?c1 ?c1 ?c2 ?c3 ?c4 ?_)
  case c1 => rfl
  case c2 => rw [hz2]; omega
  case c3 => unfold maxLen; omega
  case c4 => exact Nat.le_refl _
  intro w1 hown1 hg1
  have hb1 := below_of_grown hg1
  have hr1 : Row w1 w.heap.size 5 (u8s (List.replicate n 0)) := row_of_own hown1
  have d0 : w1.cell? ⟨b, 0, none⟩ = some (.pointer p) := (hb1.cell (p := ⟨b, 0, none⟩) hbl).trans c0
  have d1 : w1.cell? ⟨b, 1, none⟩ = some (.int .i64 (n : Int)) := (hb1.cell (p := ⟨b, 1, none⟩) hbl).trans c1
  have Hb1 := Lib.hid hb1
  have Hr1 := Lib.hid hr1
  clear hown1 hg1 hb1 hr1 c0 c1
  go_wp2
  go_loopw [4, 5] (fun i p' wr => ∃ (A : Nat) (q' : Option Addr) (rem : List (List Nat)) (suf : List Nat), i = .int .i64 (A : Int) ∧ p' = .pointer q' ∧ Hid (PC w q' rem) ∧ Hid (Row wr w.heap.size 5 (u8s (List.replicate A 0 ++ suf))) ∧
    Hid (Below w.heap.size w wr) ∧ Hid (A = rem.reverse.flatten.length) ∧ Hid (bs = rem.reverse.flatten ++ suf) ∧ A ≤ n) (fun i _ _ => (intOf i).toNat)
  case atStart => exact ⟨n, p, ts, [], rfl, rfl, Hc, by rw [List.append_nil]; exact Hr1, Hb1, by unfold Hid; rw [← He.out]; exact Hn.out, by unfold Hid; rw [← He.out, List.append_nil], Nat.le_refl _⟩
  case round =>
    obtain ⟨A, q', rem, suf, rfl, rfl, hch, hrow, hbel, hA, hbs, hAn⟩ := hrel
    clear Hb1 Hr1 d0 d1 Hc He
    rcases rem with _ | ⟨t, rem⟩
    · obtain rfl : q' = none := hch.out
      have hsuf : bs = suf := by have := hbs.out; simpa using this
      have hA0 : A = 0 := by have := hA.out; simpa using this
      subst hA0
      have hrow2 : Row wr w.heap.size 5 (u8s bs) := by have := hrow.out; rw [hsuf]; simpa using this
      have hconv := conv_row (m := n) (c := n) hrow2 (by rw [Hn.out]; exact Nat.le_refl _) Hbs.out
      rw [Hn.out, List.take_length, ← Hn.out] at hconv
      rw [← Hall.out] at hconv
      clear hsuf hrow hrow2 hch hbs hA
      go_wp2
      go_ret
      exact ⟨rfl, hbel.out⟩
    · obtain ⟨g1, q1, rfl, hrp, hne, hch1⟩ := hch.out
      have hg1 := hrp.lt
      have k0 := (hbel.out.cell (p := ⟨g1, 0, none⟩) hg1).trans (hrp.cell 0)
      have k1 := (hbel.out.cell (p := ⟨g1, 1, none⟩) hg1).trans (hrp.cell 1)
      simp only [List.getElem?_cons_zero, List.getElem?_cons_succ] at k0 k1
      have Hch1 := Lib.hid hch1
      obtain ⟨r, hr⟩ : ∃ r, r = rem.reverse.flatten.length := ⟨_, rfl⟩
      obtain ⟨L, hL⟩ : ∃ L, L = t.length := ⟨_, rfl⟩
      have hAr : A = r + L := by
        have h1 := hA.out
        rw [List.reverse_cons, List.flatten_append, List.length_append] at h1
        simp at h1
        simp [hr, hL, h1]
      have hL0 : 0 < L := by rw [hL]; exact List.length_pos_iff.2 hne
      have hbs2 : bs = rem.reverse.flatten ++ (t ++ suf) := by
        have h1 := hbs.out
        rw [h1, List.reverse_cons, List.flatten_append]
        simp
      have hlensuf : suf.length + A = n := by
        have h1 := congrArg List.length hbs2
        rw [Hn.out, h1, hAr]
        simp [hr, hL]; omega
      have htlt : ∀ x ∈ t, x < 256 := fun x hx => Hbs.out x (by rw [hbs2]; simp [hx])
      have hcopy : ∃ w3, (∀ ty, (Builtin.copy_ #[64, 9] ty #[.slice (some ⟨w.heap.size, r, none⟩) (n - r) (n - r), .string (strOf t)]).run Try.prog wr.drew = .ok (goInt (L : Int)) w3) ∧ Row w3 w.heap.size 5 (u8s (List.replicate r 0 ++ (t ++ suf))) ∧ Below w.heap.size w w3 := by
        have hrd : Row wr.drew w.heap.size 5 (u8s (List.replicate (r + L) 0 ++ suf)) := by have := hrow.out; rw [hAr] at this; exact this
        have hcp := fun ty => copy_str (q := r) (L := n - r) hrd htlt (by simp; omega) (by omega) ty
        obtain ⟨w3, h1, h2, h3⟩ := hcp 0
        rw [← hL, rem_step r L t suf hL.symm] at h2
        rw [← hL] at h1
        refine ⟨w3, fun ty => ?_, h2, hbel.out.drew.grown h3 (by have := hbel.out.size; simpa using this) (fun k e => by injection e with e; omega)⟩
        exact h1
      obtain ⟨w3, hcp, hrow3, hbel3⟩ := hcopy
      have hsz := strOf_size t
      rw [← hL] at hsz
      have hcp3 := hcp 3
      have hsub : (A : Int) - (L : Int) = (r : Int) := by omega
      have hrn : r < n := by omega
      have hLA : L ≤ A := by omega
      have hsa := fun W => slice_at8 w.heap.size n r W hrn
      have k0' : w3.cell? ⟨g1, 0, none⟩ = some (.pointer q1) := (hbel3.cell (p := ⟨g1, 0, none⟩) hg1).trans ((hbel.out.cell (p := ⟨g1, 0, none⟩) hg1).symm.trans k0)
      have Hrow3 := Lib.hid hrow3
      have Hbel3 := Lib.hid hbel3
      have Hr := Lib.hid hr
      have Hbs2 := Lib.hid hbs2
      have HAr := Lib.hid hAr
      clear hch1 hrp hch hr hbs2 hbs hA hlensuf htlt hrow hrow3 hbel3 hne hcp hL hAr
      generalize strOf t = str at k1 hsz hcp3
      go_wp2
      go_still_tail 7, (by kernel_rfl)
      change wpList _ _ _ _ _ wr.drew
      clear hsa
      go_wp2
      clear hcp3
      go_roundw
      case rel => exact ⟨r, q1, rem, t ++ suf, rfl, rfl, Hch1, Hrow3, Hbel3, Hr, Hbs2, by omega⟩
      case measure => simp [intOf]; omega
end Go.Proofs.Ytfopnbfaaikghaa
