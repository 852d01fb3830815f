/-
  Layer 4 (sum): Prefixes, by its walk. Conditions: as each theorem's premises say.
-/
import Derived.Test.YtafdpbehdgidpaaSc
namespace Go.Proofs.Ytafdpbehdgidpaa
open Go.RowKit

theorem info_u64 : (Try.prog.info? 24).map (fun i => (i.zero, i.size, i.bytes)) = some (some (.int .u64 0), 1, 8) := by kernel_rfl
theorem row_of_own64 {w : World} {base g n : Nat} (h : w.ownsRow base 24 1 (.slice (some ⟨g, 0, none⟩) n n) n (madeCells #[Value.int .u64 0] n).toList) : Row w g 24 (List.replicate n (.int .u64 0)) := by
  rcases h.2 with ⟨hv, _⟩ | ⟨g', cap, cur, hv, hb, hh, h1, h2, h3, h4⟩
  · cases hv
  · injection hv with e1 e2 e3
    injection e1 with e1
    injection e1 with e1
    subst e1 e3
    have e : cur.toList = List.replicate n (.int .u64 0) := by
      rw [List.take_of_length_le (by rw [Array.length_toList]; omega)] at h4
      rw [h4, toList_madeCells_one]
    unfold Row
    rw [← e, Array.toArray_toList]
    exact hh
/-- The first k of these cells are the sums of a text's beginnings. -/
def PreOk (l : List Nat) (k : Nat) (cs : List Value) : Prop := cs.length = l.length ∧ ∀ j, j < k → cs[j]? = some (.int .u64 (Bm.sumOf (l.take (j + 1)) : Int))
theorem PreOk.next {l : List Nat} {k : Nat} {cs : List Value} (h : PreOk l k cs) (hk : k < l.length) : PreOk l (k + 1) (cs.set k (.int .u64 (Bm.sumOf (l.take (k + 1)) : Int))) := by
  refine ⟨by simpa using h.1, fun j hj => ?_⟩
  by_cases e : j = k
  · subst e; simp [h.1, hk]
  · rw [List.getElem?_set_ne (by omega)]
    exact h.2 j (by omega)

set_option maxHeartbeats 1000000 in
theorem sprefixes_any (l : List Nat) (w : World) (hl : l.length ≤ 1000000) (hlt : ∀ x ∈ l, x < 256) :
    Calls Try.prog 12 #[.string (strOf l)] w fun e w' => ∃ g cs, e = .returned (.slice (some ⟨g, 0, none⟩) l.length l.length) ∧ w.heap.size ≤ g ∧ Row w' g 24 cs ∧ PreOk l l.length cs ∧ Below w.heap.size w w' := by
  have hsz := strOf_size l
  have Hidx : Hid (∀ (i : Nat) (W : World) (hi : i < l.length), (Instr.index 9 (.string (strOf l)) (.int .i64 (i : Int))).run Try.prog W = .ok (.int .u8 ((l[i] : Nat) : Int)) W) := Lib.hid (fun i W hi => index_at l i W hi (hlt _ (List.getElem_mem hi)))
  have Hlt := Lib.hid hlt
  have Hhk := Lib.hid (fun k => Bm.fromH_lt Bm.H0 (l.take k) Bm.H0_lt)
  clear hlt
  obtain ⟨i0, hi, hz0, hz1, hz2⟩ := info_parts info_u64
  generalize strOf l = s at hsz Hidx ⊢
  obtain ⟨g, hg⟩ : ∃ g, g = w.heap.size := ⟨_, rfl⟩
  have Hg := Lib.hid hg
  clear hg
  go_enter Try.func12, Try.ntmps12
  go_wp2_with (at_make; refine wpList_make_full _ rfl _ _ 32 rfl w.heap.size 24 i0 (.int .u64 0) 1 Try.underlying32 hi hz0 hz1 .i64 .i64 _ _ l.length rfl rfl ?c1 ?c1 ?c2 ?c3 ?c4 ?_)
  case c1 => rfl
  case c2 => rw [hz2]; omega
  case c3 => unfold maxLen; omega
  case c4 => exact Nat.le_refl _
  intro w1 hown1 hg1
  have hb1 := below_of_grown hg1
  have hr1 := row_of_own64 hown1
  rw [← Hg.out] at hr1 ⊢
  have Hb1 := Lib.hid hb1
  have Hr1 := Lib.hid hr1
  clear hown1 hg1 hb1 hr1 hi hz0 hz1 hz2
  go_wp2_with fail
  refine (snew_any w1).mono ?_
  rintro e w2 ⟨rfl, hb2⟩
  have Hr2 := Lib.hid (Hr1.out.below hb2)
  have Hb2 := Lib.hid (Hb1.out.trans (hb2.mono Hb1.out.size))
  obtain ⟨b, hb⟩ : ∃ b, b = w2.heap.size := ⟨_, rfl⟩
  have Hb := Lib.hid hb
  clear hb hb2 Hr1 Hb1
  go_wp2
  rw [← Hb.out]
  have hgb : g < b := by rw [Hb.out]; exact Hr2.out.lt
  have hwg : w.heap.size ≤ g := by rw [Hg.out]; exact Nat.le_refl _
  have hr3 : Row (w2.alloc (.cells #[.int .u64 7640891576956012808, .int .u64 0] 26)) g 24 (List.replicate l.length (.int .u64 0)) := Hr2.out.alloc _
  have hs3 : Row (w2.alloc (.cells #[.int .u64 7640891576956012808, .int .u64 0] 26)) b 26 (scells Bm.H0 0) := by rw [Hb.out]; exact Row.new w2 26 (scells Bm.H0 0)
  have hb3 : Below w.heap.size w (w2.alloc (.cells #[.int .u64 7640891576956012808, .int .u64 0] 26)) := Hb2.out.alloc Hb2.out.size _
  have Hr3 := Lib.hid hr3
  have Hs3 := Lib.hid hs3
  have Hb3 := Lib.hid hb3
  clear hr3 hs3 hb3 Hr2 Hb2 Hb Hg
  generalize (w2.alloc (.cells #[.int .u64 7640891576956012808, .int .u64 0] 26)) = w3 at Hr3 Hs3 Hb3 ⊢
  go_loopw [5, 12] (fun x i wr => ∃ (k : Nat) (cs : List Value), k ≤ l.length ∧ i = .int .i64 (k : Int) ∧ Hid (Row wr g 24 cs) ∧ Hid (PreOk l k cs) ∧ Hid (Row wr b 26 (scells (Bm.fromH Bm.H0 (l.take k)) k)) ∧ Hid (Below w.heap.size w wr)) (fun _ i _ => l.length - (intOf i).toNat)
  case atStart => exact ⟨0, _, by omega, rfl, Hr3, Lib.hid ⟨by simp, fun j hj => by omega⟩, Hs3, Hb3⟩
  case round =>
    obtain ⟨k, cs, hk, rfl, hrow, hpre, hst, hbel⟩ := hrel
    clear Hr3 Hs3 Hb3
    by_cases hkl : k < l.length
    · have hx := fun W => Hidx.out k W hkl
      have hby := fun W => sbyte_any (Bm.fromH Bm.H0 (l.take k)) k l[k] W (Hhk.out k) (Hlt.out _ (List.getElem_mem hkl))
      rw [show Bm.stepH (Bm.fromH Bm.H0 (l.take k)) l[k] = Bm.fromH Bm.H0 (l.take (k + 1)) by rw [Bm.fromH_take _ l k hkl], show (k + 1) % 18446744073709551616 = k + 1 by omega] at hby
      have hsu := fun W => ssum_any (Bm.fromH Bm.H0 (l.take (k + 1))) (k + 1) W
      have hso : Bm.sumH (Bm.fromH Bm.H0 (l.take (k + 1))) (k + 1) = Bm.sumOf (l.take (k + 1)) := by
        unfold Bm.sumOf; rw [List.length_take, Nat.min_eq_left (by omega)]
      rw [hso] at hsu
      have hcl := hpre.out.1
      have hpn := hpre.out.next hkl
      have Hpn := Lib.hid hpn
      have Hby := Lib.hid hby
      have Hsu := Lib.hid hsu
      clear hby hsu hso Hidx Hlt Hhk hpn hpre
      obtain ⟨ck, hck⟩ : ∃ v, cs[k]? = some v := ⟨cs[k], by simp⟩
      generalize l[k] = d at hx Hby
      generalize Bm.fromH Bm.H0 (l.take k) = y at Hby hst
      generalize hy' : Bm.fromH Bm.H0 (l.take (k + 1)) = y' at Hby Hsu
      generalize Bm.sumOf (l.take (k + 1)) = S at Hsu Hpn
      obtain ⟨k1, hk1⟩ : ∃ k1, k1 = k + 1 := ⟨_, rfl⟩
      rw [← hk1] at Hby Hsu Hpn hy'
      have Hy' := Lib.hid hy'
      have Hk1 := Lib.hid hk1
      clear hy' hk1
      have c0 := hst.out.cell 0
      have c1 := hst.out.cell 1
      simp only [scells, List.getElem?_cons_zero, List.getElem?_cons_succ] at c0 c1
      go_wp2
      go_still_tail 4, (by kernel_rfl)
      change wpList _ _ _ _ _ wr.drew
      clear hx c0 c1
      have hrow' : Row wr.drew g 24 cs := hrow.out
      have hst' : Row wr.drew b 26 (scells y k) := hst.out
      have hbel' : Below w.heap.size w wr.drew := hbel.out.drew
      have Hrow := Lib.hid hrow'
      have Hst := Lib.hid hst'
      have Hbel := Lib.hid hbel'
      clear hrow hst hbel hrow' hst' hbel'
      generalize wr.drew = w4 at Hrow Hst Hbel ⊢
      go_wp2_with fail
      refine (Hby.out w4).mono ?_
      rintro e w5 ⟨rfl, hb5⟩
      have hst5 := Hst.out.below hb5
      have Hrow5 := Lib.hid (Hrow.out.below hb5)
      have Hbel5 := Lib.hid (Hbel.out.trans (hb5.mono Hbel.out.size))
      have c0 := hst5.cell 0
      have c1 := hst5.cell 1
      simp only [scells, List.getElem?_cons_zero, List.getElem?_cons_succ] at c0 c1
      have f0 := hst5.free 0
      have f1 := hst5.free 1
      have Hst5 := Lib.hid hst5
      clear hst5 hb5 Hrow Hst Hbel
      go_wp2_with fail
      have hst6 : Row ((w5.setCell ⟨b, 0, none⟩ (.int .u64 (y' : Int))).setCell ⟨b, 1, none⟩ (.int .u64 (k1 : Int))) b 26 (scells y' k1) := Hst5.out.state
      have hrow6 : Row ((w5.setCell ⟨b, 0, none⟩ (.int .u64 (y' : Int))).setCell ⟨b, 1, none⟩ (.int .u64 (k1 : Int))) g 24 cs := (Hrow5.out.far (by simp; omega) _).far (by simp; omega) _
      have hbel6 : Below w.heap.size w ((w5.setCell ⟨b, 0, none⟩ (.int .u64 (y' : Int))).setCell ⟨b, 1, none⟩ (.int .u64 (k1 : Int))) := (Hbel5.out.setCell (by simp; omega) _).setCell (by simp; omega) _
      have Hst6 := Lib.hid hst6
      have Hrow6 := Lib.hid hrow6
      have Hbel6 := Lib.hid hbel6
      clear hst6 hrow6 hbel6 Hst5 Hrow5 Hbel5 c0 c1 f0 f1
      generalize ((w5.setCell ⟨b, 0, none⟩ (.int .u64 (y' : Int))).setCell ⟨b, 1, none⟩ (.int .u64 (k1 : Int))) = w6 at Hst6 Hrow6 Hbel6 ⊢
      refine (Hsu.out w6).mono ?_
      rintro e w7 ⟨rfl, hb7⟩
      have hrow7 := Hrow6.out.below hb7
      have c2 := (hrow7.cell k).trans hck
      have f2 := hrow7.free k
      have Hrow7 := Lib.hid hrow7
      have Hst7 := Lib.hid (Hst6.out.below hb7)
      have Hbel7 := Lib.hid (Hbel6.out.trans (hb7.mono Hbel6.out.size))
      clear hrow7 hb7 Hrow6 Hst6 Hbel6
      go_wp2
      go_roundw
      case rel =>
        refine ⟨k1, _, by rw [Hk1.out]; omega, by rw [Hk1.out]; go_num, Lib.hid (Hrow7.out.set_ k _), Hpn, Lib.hid ?_, Lib.hid (Hbel7.out.setCell (by simp; omega) _)⟩
        rw [Hy'.out]
        exact Hst7.out.far (by simp; omega) _
      case measure => simp [intOf]; omega
    · obtain rfl : k = l.length := by omega
      go_wp2
      go_ret
      exact ⟨g, cs, rfl, hwg, hrow.out, hpre.out, hbel.out⟩
end Go.Proofs.Ytafdpbehdgidpaa
