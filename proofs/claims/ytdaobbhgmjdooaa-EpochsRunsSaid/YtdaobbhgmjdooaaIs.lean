/-
  The reference of layer 21 (epochs), by its walks: All, Add. Conditions: as each theorem's premises say.
-/
import Derived.Test.YtdaobbhgmjdooaaIr
import Derived.Deep.DeepCutAuto
namespace Go.Proofs.Ytdaobbhgmjdooaa
open Go.RowKit

/-- The epochs that are there, of the first ones. -/
def epR (R : List Bm.Rc) : List Nat := (Bm.dlF 0 R).map (·.e)
theorem epR_take (R : List Bm.Rc) (k : Nat) (h : k < R.length) : epR (R.take (k + 1)) = epR (R.take k) ++ if R[k].th = true then [k + 1] else [] := by
  unfold epR
  rw [List.take_succ_eq_append_getElem h, Bm.dlF_append, List.map_append, List.length_take, Nat.min_eq_left (by omega), Nat.zero_add]
  congr 1
  rw [Bm.dlF]
  split <;> rfl
theorem epR_len (R : List Bm.Rc) : (epR R).length = cnR R := by simp [epR, cnR]
theorem info_int1 : (Try.prog.info? 3).map (fun i => (i.zero, i.size, i.bytes)) = some (some (.int .i64 0), 1, 8) := by kernel_rfl
theorem info_boo1 : (Try.prog.info? 4).map (fun i => (i.zero, i.size, i.bytes)) = some (some (.bool false), 1, 1) := by kernel_rfl
set_option maxHeartbeats 1000000 in
set_option maxRecDepth 100000 in
theorem erall_any (p base : Nat) (R : List Bm.Rc) (w : World) (hR : R.length ≤ 1000000) (h : RS w p base R) :
    Calls Try.prog 18 #[.pointer (some ⟨p, 0, none⟩)] w fun e w' => ∃ A c, e = .returned (.slice A (epR R).length c) ∧ Reads w' A (i64s (epR R)) ∧ Below w.heap.size w w' := by
  obtain ⟨vT, vB, vH, h1⟩ := h
  obtain ⟨AT, cT, AB, cB, AH, cH, rfl, rfl, rfl, r1, r2, r3, c0, c1, c2⟩ := h1.reads
  have H1 := Lib.hid h1
  have Hrd := Lib.hid r2
  have hlB : (R.map (·.th)).length = R.length := List.length_map ..
  rw [hlB] at c1 H1
  have Hc1 := Lib.hid c1
  obtain ⟨i0, hi, hz0, hz1, hz2⟩ := info_parts info_int1
  clear h1 r1 r2 r3 c0 c2 hlB c1
  have hpl := H1.out.row.lt
  go_enter Try.func18, Try.ntmps18
  go_wp2
  go_loopw [3, 4] (fun u i wr => ∃ k : Nat, k ≤ R.length ∧ i = .int .i64 (k : Int) ∧ Hid (wr.ownsRow w.heap.size 3 1 u (epR (R.take k)).length (i64s (epR (R.take k)))) ∧ Hid (Below w.heap.size w wr)) (fun _ i _ => R.length - (intOf i).toNat)
  case atStart => exact ⟨0, Nat.zero_le _, rfl, Lib.hid (World.ownsRow_nil _ _ _ _), Lib.hid (Below.refl _ _)⟩
  case round =>
    obtain ⟨k, hk, rfl, hown, hbel⟩ := hrel
    have c1 : wr.cell? ⟨p, 1, none⟩ = some (.slice AB R.length cB) := (hbel.out.cell (p := ⟨p, 1, none⟩) hpl).trans Hc1.out
    by_cases hkl : k < R.length
    · obtain ⟨g, off, rfl, hc⟩ := reads_boo (reads_on Hrd.out hbel.out) (by rw [List.length_map]; omega)
      have k0 := hc k (by rw [List.length_map]; exact hkl)
      rw [List.getElem_map] at k0
      have hnx := epR_take R k hkl
      have hle : (epR (R.take k)).length ≤ R.length := by rw [epR_len]; exact cnR_le R k
      have hkI : (k : Int) < (R.length : Int) := by omega
      clear hc
      cases hth : R[k].th with
      | true =>
        rw [hth, if_pos rfl] at hnx
        rw [hth] at k0
        have Hnx := Lib.hid hnx
        clear hth hnx H1
        generalize epR (R.take k) = acc at *
        go_wp2_with (at_builtin; refine wpList_append_own _ rfl _ _ 29 rfl w.heap.size 3 i0 (.int .i64 0) 1 8 Try.underlying29 hi hz0 hz1 hz2 rfl (by decide) _ _ _ rfl (hown.out.alloc _) ⟨wr.heap.size, 0, none⟩ 1 1 [.int .i64 ((k : Int) + 1)] rfl rfl ?d1 ?d2 ?d3 ?d4 ?d5 ?_)
        case d1 =>
          intro j u hj
          match j, hj with
          | 0, hj => simp at hj; subst hj; simp [Addr.add]
        case d2 => intro u hu; simp at hu; subst hu; rfl
        case d3 => unfold maxLen; omega
        case d4 => omega
        case d5 => have := hbel.out.size; simp; omega
        intro u' w2 hown2 hgr2 _
        have hbel2 : Below w.heap.size w w2 := (hbel.out.alloc hbel.out.size _).grown hgr2 (by have := hbel.out.size; simp; omega) (fun x e => (hown.out.lt x e).1)
        have e : i64s acc ++ [Value.int .i64 ((k : Int) + 1)] = i64s (acc ++ [k + 1]) := by simp [i64s]
        have e2 : acc.length + 1 = (acc ++ [k + 1]).length := by simp
        rw [e, e2, ← Hnx.out] at hown2
        have Hown2 := Lib.hid hown2
        have Hbel2 := Lib.hid hbel2
        clear hgr2 hown2 hbel2 e e2 hown hbel c1 k0
        go_wp2
        go_roundw
        case rel => exact ⟨k + 1, by omega, by go_num, Hown2, Hbel2⟩
        case measure => simp [intOf]; omega
      | false =>
        rw [hth, if_neg (by simp), List.append_nil] at hnx
        rw [hth] at k0
        have Hnx := Lib.hid hnx
        clear hth hnx H1
        go_wp2
        go_roundw
        case rel => exact ⟨k + 1, by omega, by go_num, by rw [Hnx.out]; exact hown, hbel⟩
        case measure => simp [intOf]; omega
    · obtain rfl : k = R.length := by omega
      rw [List.take_length] at hown
      obtain ⟨A, c, rfl, hrd, _⟩ := own_reads hown.out
      have Hrd2 := Lib.hid hrd
      clear hrd hown
      go_wp2
      go_ret
      exact ⟨A, c, rfl, Hrd2.out, hbel.out⟩
end Go.Proofs.Ytdaobbhgmjdooaa
