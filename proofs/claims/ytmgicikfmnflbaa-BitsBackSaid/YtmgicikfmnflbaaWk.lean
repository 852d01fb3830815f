/-
  The statements' common head (layer 1): awake returns true and changes nothing that was there. No condition.
-/
import Derived.Test.YtmgicikfmnflbaaWt
namespace Go.Proofs.Ytmgicikfmnflbaa
open Go.RowKit

theorem put_int (b off N n : Nat) (v m : Int) (w : World) (hn : n ≤ 1000000000) (hv0 : 0 ≤ v) (hv : v < 4294967296) (hm0 : 0 ≤ m) (hm : m ≤ 32) (h : WS w b off N n) :
    Calls Try.prog 7 #[.pointer (some ⟨b, off, none⟩), .int .u32 v, .int .i64 m] w fun e w' => e = .returned (.bool true) ∧ WS w' b off (N + v.toNat % 2 ^ m.toNat * 2 ^ n) (n + m.toNat) ∧ w.grownBy w' (some b) := by
  obtain ⟨v', rfl⟩ := Int.eq_ofNat_of_zero_le hv0
  obtain ⟨m', rfl⟩ := Int.eq_ofNat_of_zero_le hm0
  rw [Int.toNat_natCast, Int.toNat_natCast]
  exact put_true b off N n v' m' w hn (by omega) (by omega) h
theorem width_int (x : Int) (w : World) (h0 : 0 ≤ x) (hx : x < 4294967296) :
    Calls Try.prog 17 #[.int .u32 x] w fun e w' => e = .returned (.int .i64 (Lib.bitLen x.toNat : Int)) ∧ w = w' := by
  obtain ⟨x', rfl⟩ := Int.eq_ofNat_of_zero_le h0
  rw [Int.toNat_natCast]
  exact width_any x' w (by omega)

theorem take_int (b off : Nat) (bs : List Nat) (pos : Nat) (m : Int) (w : World) (hs : bs.length ≤ 100000000) (hbs : ∀ x ∈ bs, x < 256) (hm0 : 0 ≤ m) (hm : m ≤ 32) (hle : pos + m.toNat ≤ 8 * bs.length) (h : RS w b off bs pos) :
    Calls Try.prog 13 #[.pointer (some ⟨b, off, none⟩), .int .i64 m] w fun e w' =>
      e = .returned (.tuple #[.int .u32 ((Bm.valB bs / 2 ^ pos % 2 ^ m.toNat : Nat) : Int), .bool true]) ∧ RS w' b off bs (pos + m.toNat) ∧ w.grownBy w' (some b) := by
  obtain ⟨m', rfl⟩ := Int.eq_ofNat_of_zero_le hm0
  rw [Int.toNat_natCast] at hle ⊢
  exact take_ok b off bs pos m' w hs hbs (by omega) hle h
theorem newr_n (A : Option Addr) (n c : Nat) (bs : List Nat) (w : World) (hn : bs.length = n) (hbs : ∀ b ∈ bs, b < 256) (hr : Reads w A (u8s bs)) :
    Calls Try.prog 12 #[.slice A n c] w fun e w' => e = .returned (.pointer (some ⟨w.heap.size, 0, none⟩)) ∧ RS w' w.heap.size 0 bs 0 ∧ Below w.heap.size w w' := by
  subst hn
  exact newr_any A c bs w hbs hr
theorem row_reads {w : World} {g : Nat} {t : TypeId} {cs : List Value} (h : Row w g t cs) : Reads w (some ⟨g, 0, none⟩) cs := fun _ => ⟨g, 0, rfl, fun j _ => by rw [Nat.zero_add]; exact h.cell j⟩

theorem notW : (27 : TypeId) ≠ 51 := by decide

set_option maxHeartbeats 1000000 in
theorem awake_any (w : World) : Calls Try.prog 6 #[] w fun e w' => e = .returned (.bool true) ∧ Below w.heap.size w w' := by
  go_enter Try.func6, Try.ntmps6
  go_wp2_with fail
  refine (put_int w.heap.size 0 0 0 5 3 _ (by omega) (by omega) (by omega) (by omega) (by omega) (WS.new w 27 notW)).mono ?_
  rintro e w1 ⟨rfl, hs1, hg1⟩
  have hs1' : WS w1 w.heap.size 0 5 3 := hs1
  clear hs1
  go_wp2_with fail
  refine (put_int w.heap.size 0 5 3 1 1 _ (by omega) (by omega) (by omega) (by omega) (by omega) hs1').mono ?_
  rintro e w2 ⟨rfl, hs2, hg2⟩
  have hs2' : WS w2 w.heap.size 0 13 4 := hs2
  clear hs2 hs1'
  have hby : Calls Try.prog 10 #[.pointer (some ⟨w.heap.size, 0, none⟩)] w2 fun e w' => ∃ g, e = .returned (.slice (some ⟨g, 0, none⟩) 1 1) ∧ w2.heap.size ≤ g ∧ Row w' g 5 [.int .u8 13] ∧ Below w2.heap.size w2 w' :=
    bytes_any w.heap.size 0 13 4 w2 (by omega) hs2'
  have Hby := Lib.hid hby
  have hbel : Below w.heap.size w w2 := ((Below.refl _ _).alloc (Nat.le_refl _) _).trans ((below_grown hg1 (Nat.le_refl _) (by simp)).trans (below_grown hg2 (Nat.le_refl _) (by have := hg1.size; simp at this; omega)))
  have Hbel := Lib.hid hbel
  clear hby hbel hg1 hg2 hs2'
  go_wp2_with fail
  refine Hby.out.mono ?_
  rintro e w3 ⟨g, rfl, hg, hrow, hb3⟩
  have hc := hrow.cell 0
  simp only [List.getElem?_cons_zero] at hc
  have Hb3 := Lib.hid hb3
  clear hrow hb3
  go_wp2_with fail
  refine (width_int 13 _ (by omega) (by omega)).mono ?_
  rintro e w4 ⟨rfl, rfl⟩
  rw [show (Lib.bitLen (Int.toNat 13) : Int) = 4 by decide]
  go_wp2
  go_ret
  exact ⟨rfl, Hbel.out.trans (Hb3.out.mono Hbel.out.size)⟩
end Go.Proofs.Ytmgicikfmnflbaa
