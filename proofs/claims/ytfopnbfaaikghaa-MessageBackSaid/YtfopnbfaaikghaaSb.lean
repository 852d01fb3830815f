/-
  Layer 4 (sum): Add, by its walk. Conditions: as each theorem's premises say.
-/
import Derived.Test.YtfopnbfaaikghaaSa
import Derived.Test.YtfopnbfaaikghaaSt
import Derived.Test.YtfopnbfaaikghaaAf
import Derived.StillTailTactics
namespace Go.Proofs.Ytfopnbfaaikghaa
open Go.RowKit

/-- A state's cells. -/
def scells (h n : Nat) : List Value := [.int .u64 (h : Int), .int .u64 (n : Int)]
theorem Row.state {w : World} {b h n h' n' : Nat} (hr : Row w b 80 (scells h n)) : Row ((w.setCell ⟨b, 0, none⟩ (.int .u64 (h' : Int))).setCell ⟨b, 1, none⟩ (.int .u64 (n' : Int))) b 80 (scells h' n') :=
  (hr.set_ 0 (.int .u64 (h' : Int))).set_ 1 (.int .u64 (n' : Int))

set_option maxHeartbeats 400000 in
set_option maxRecDepth 100000 in
theorem sadd_any (h n : Nat) (l : List Nat) (w : World) (hh : h < 18446744073709551616) (hn : n < 18446744073709551616) (hl : l.length ≤ 1000000000) (hlt : ∀ x ∈ l, x < 256) :
    Calls Try.prog 47 #[.agg #[.int .u64 (h : Int), .int .u64 (n : Int)], .string (strOf l)] w fun e w' => e = .returned (.agg #[.int .u64 (Bm.fromH h l : Int), .int .u64 (((n + l.length) % 18446744073709551616 : Nat) : Int)]) ∧ Below w.heap.size w w' := by
  have hsz := strOf_size l
  have hidx : ∀ (i : Nat) (W : World) (hi : i < l.length), (Instr.index 9 (.string (strOf l)) (.int .i64 (i : Int))).run Try.prog W = .ok (.int .u8 ((l[i] : Nat) : Int)) W := fun i W hi => index_at l i W hi (hlt _ (List.getElem_mem hi))
  have Hidx := Lib.hid hidx
  have Hlt := Lib.hid hlt
  have Hn := Lib.hid hn
  have hres : ∀ k, k < l.length → Bm.stepH (Bm.fromH h (l.take k)) (l[k]?.getD 0) = Bm.fromH h (l.take (k + 1)) := fun k hk => by
    rw [Bm.fromH_take h l k hk]; simp [hk]
  have Hres := Lib.hid hres
  have Hhk := Lib.hid (fun k => Bm.fromH_lt h (l.take k) hh)
  obtain ⟨r, hr⟩ : ∃ r, r = Bm.fromH h l := ⟨_, rfl⟩
  rw [← hr]
  have Hr := Lib.hid hr
  obtain ⟨N, hN⟩ : ∃ N, N = (n + l.length) % 18446744073709551616 := ⟨_, rfl⟩
  rw [← hN]
  have HN := Lib.hid hN
  clear hN
  clear hidx hlt hn hres hr
  generalize strOf l = s at hsz Hidx ⊢
  go_enter Try.func47, Try.ntmps47
  go_wp2
  go_loopw [5, 8] (fun x i wr => ∃ k : Nat, k ≤ l.length ∧ i = .int .i64 (k : Int) ∧ Hid (Row wr w.heap.size 80 (scells (Bm.fromH h (l.take k)) ((n + k) % 18446744073709551616))) ∧ Hid (Row wr (w.heap.size + 1) 80 (scells 0 0)) ∧ Hid (Below w.heap.size w wr)) (fun _ i _ => l.length - (intOf i).toNat)
  case atStart =>
    refine ⟨0, by omega, rfl, ?_, ?_, ?_⟩
    · rw [show (n + 0) % 18446744073709551616 = n from Nat.mod_eq_of_lt Hn.out]
      exact (Row.new w 80 (scells h n)).alloc _
    · have h2 := Row.new (w.alloc (.cells #[.int .u64 (h : Int), .int .u64 (n : Int)] 80)) 80 (scells 0 0)
      rw [show (w.alloc (.cells #[.int .u64 (h : Int), .int .u64 (n : Int)] 80)).heap.size = w.heap.size + 1 by simp] at h2
      exact h2
    · exact ((Below.refl _ _).alloc (Nat.le_refl _) _).alloc (by simp) _
  case round =>
    obtain ⟨k, hk, rfl, hrow, hrow2, hbel⟩ := hrel
    by_cases hkl : k < l.length
    · have hx := fun W => Hidx.out k W hkl
      have hby := fun m W => sbyte_any (Bm.fromH h (l.take k)) m l[k] W (Hhk.out k) (Hlt.out _ (List.getElem_mem hkl))
      rw [show Bm.stepH (Bm.fromH h (l.take k)) l[k] = Bm.fromH h (l.take (k + 1)) by rw [Bm.fromH_take h l k hkl]] at hby
      have Hr2 := Lib.hid (fun m => show ((n + k) % 18446744073709551616 + 1) % 18446744073709551616 = m → m = (n + (k + 1)) % 18446744073709551616 from fun e => by omega)
      generalize (n + k) % 18446744073709551616 = m at hrow Hr2
      have hby := hby m
      generalize hm : (m + 1) % 18446744073709551616 = m' at hby
      have Hm := Lib.hid (Hr2.out m' hm)
      have Hby := Lib.hid hby
      clear hm Hr2 hby Hidx Hlt Hres
      generalize l[k] = b at hx Hby
      generalize Bm.fromH h (l.take k) = y at Hby hrow
      generalize hy' : Bm.fromH h (l.take (k + 1)) = y' at Hby
      have Hy' := Lib.hid hy'
      clear hy' Hhk
      have c0 := hrow.out.cell 0
      have c1 := hrow.out.cell 1
      simp only [scells, List.getElem?_cons_zero, List.getElem?_cons_succ] at c0 c1
      go_wp2
      go_still_tail 4, (by kernel_rfl)
      change wpList _ _ _ _ _ wr.drew
      clear hx c0 c1
      have hrow' : Row wr.drew w.heap.size 80 (scells y m) := hrow.out
      have hrow2' : Row wr.drew (w.heap.size + 1) 80 (scells 0 0) := hrow2.out
      have hbel' : Below w.heap.size w wr.drew := hbel.out.drew
      have Hrow := Lib.hid hrow'
      have Hrow2 := Lib.hid hrow2'
      have Hbel := Lib.hid hbel'
      clear hrow hrow2 hbel hrow' hrow2' hbel'
      generalize wr.drew = w1 at Hrow Hrow2 Hbel ⊢
      go_wp2_with fail
      refine (Hby.out w1).mono ?_
      rintro e w2 ⟨rfl, hb2⟩
      have hrow := Hrow.out.below hb2
      have Hrow3 := Lib.hid hrow
      have Hrow4 := Lib.hid (Hrow2.out.below hb2)
      have Hbel2 := Lib.hid (Hbel.out.trans (hb2.mono Hbel.out.size))
      have c0 := hrow.cell 0
      have c1 := hrow.cell 1
      simp only [scells, List.getElem?_cons_zero, List.getElem?_cons_succ] at c0 c1
      have f0 := hrow.free 0
      have f1 := hrow.free 1
      clear hrow hb2 Hrow Hrow2 Hbel
      go_wp2
      go_roundw
      case rel =>
        refine ⟨k + 1, by omega, by go_num, ?_, ?_, ?_⟩
        · rw [Hy'.out, ← Hm.out]
          exact Hrow3.out.state
        · exact (Hrow4.out.far (by simp) _).far (by simp) _
        · exact (Hbel2.out.setCell (Nat.le_refl _) _).setCell (Nat.le_refl _) _
      case measure => simp [intOf]; omega
    · obtain rfl : k = l.length := by omega
      rw [List.take_length, ← Hr.out, ← HN.out] at hrow
      clear HN Hr
      have c0 := hrow.out.cell 0
      have c1 := hrow.out.cell 1
      have d0 := hrow2.out.cell 0
      have d1 := hrow2.out.cell 1
      simp only [scells, List.getElem?_cons_zero, List.getElem?_cons_succ] at c0 c1 d0 d1
      have f0 := hrow2.out.free 0
      have f1 := hrow2.out.free 1
      clear hrow
      have s0 := (hrow2.out.set_ 0 (.int .u64 (r : Int))).cell 0
      have s1 := ((hrow2.out.set_ 0 (.int .u64 (r : Int))).set_ 1 (.int .u64 (N : Int))).cell 1
      simp only [scells, List.set_cons_zero, List.set_cons_succ, List.getElem?_cons_zero, List.getElem?_cons_succ] at s0 s1
      have S0 := Lib.hid s0
      have S1 := Lib.hid s1
      clear s0 s1
      go_wp2
      have s0 := S0.out
      have s1 := S1.out
      refine bodyPost_ret (v := .agg #[.int .u64 (r : Int), .int .u64 (N : Int)]) (by simp [results, Try.results47, go_sem, s0, s1]) rfl ⟨rfl, ?_⟩
      exact (hbel.out.setCell (by simp) _).setCell (by simp) _
end Go.Proofs.Ytfopnbfaaikghaa
