/-
  Contracts of layer 1 over whole numbers that are told as such (Int), and a row as a slice that reads. Conditions: as each theorem's premises say.
-/
import Derived.Test.YtefcahmhfjblpaaWt
namespace Go.Proofs.Ytefcahmhfjblpaa
open Go.RowKit

theorem put_int (b off N n : Nat) (v m : Int) (w : World) (hn : n ≤ 1000000000) (hv0 : 0 ≤ v) (hv : v < 4294967296) (hm0 : 0 ≤ m) (hm : m ≤ 32) (h : WS w b off N n) :
    Calls Try.prog 7 #[.pointer (some ⟨b, off, none⟩), .int .u32 v, .int .i64 m] w fun e w' => e = .returned (.bool true) ∧ WS w' b off (N + v.toNat % 2 ^ m.toNat * 2 ^ n) (n + m.toNat) ∧ w.grownBy w' (some b) := by
  obtain ⟨v', rfl⟩ := Int.eq_ofNat_of_zero_le hv0
  obtain ⟨m', rfl⟩ := Int.eq_ofNat_of_zero_le hm0
  rw [Int.toNat_natCast, Int.toNat_natCast]
  exact put_true b off N n v' m' w hn (by omega) (by omega) h
theorem take_int (b off : Nat) (bs : List Nat) (pos : Nat) (m : Int) (w : World) (hs : bs.length ≤ 100000000) (hbs : ∀ x ∈ bs, x < 256) (hm0 : 0 ≤ m) (hm : m ≤ 32) (hle : pos + m.toNat ≤ 8 * bs.length) (h : RS w b off bs pos) :
    Calls Try.prog 17 #[.pointer (some ⟨b, off, none⟩), .int .i64 m] w fun e w' =>
      e = .returned (.tuple #[.int .u32 ((Bm.valB bs / 2 ^ pos % 2 ^ m.toNat : Nat) : Int), .bool true]) ∧ RS w' b off bs (pos + m.toNat) ∧ w.grownBy w' (some b) := by
  obtain ⟨m', rfl⟩ := Int.eq_ofNat_of_zero_le hm0
  rw [Int.toNat_natCast] at hle ⊢
  exact take_ok b off bs pos m' w hs hbs (by omega) hle h
theorem newr_n (A : Option Addr) (n c : Nat) (bs : List Nat) (w : World) (hn : bs.length = n) (hbs : ∀ b ∈ bs, b < 256) (hr : Reads w A (u8s bs)) :
    Calls Try.prog 16 #[.slice A n c] w fun e w' => e = .returned (.pointer (some ⟨w.heap.size, 0, none⟩)) ∧ RS w' w.heap.size 0 bs 0 ∧ Below w.heap.size w w' := by
  subst hn
  exact newr_any A c bs w hbs hr
theorem notW : (27 : TypeId) ≠ 55 := by decide
theorem own_notT {w : World} {base : Nat} {v : Value} {n : Nat} {xs : List Value} (h : w.ownsRow base 3 1 v n xs) : ∀ g, v.ownBlock = some g → NotT w g 55 := by
  intro g hg
  rcases h.2 with ⟨rfl, _⟩ | ⟨g', cap, cur, rfl, _, hh, _⟩
  · simp [Value.ownBlock] at hg
  · have e : g' = g := by simpa [Value.ownBlock] using hg
    subst e
    exact ⟨_, _, _, hh, by decide⟩

theorem WS.len_cell {w : World} {b off N n : Nat} (h : WS w b off N n) : w.cell? ⟨b, off + 2, none⟩ = some (.int .i64 (n : Int)) := by
  obtain ⟨p, rest, us, h0, h1, h2, _⟩ := h
  exact h2
end Go.Proofs.Ytefcahmhfjblpaa
