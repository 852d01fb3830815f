/-
  Put of a Writer (layer 1), by its walk: refused numbers of bits leave all as it is; else the bits go behind those that are there.
-/
import Derived.Test.YtefcahmhfjblpaaWa
import Derived.RegionTactic
import Derived.BigRegion
namespace Go.Proofs.Ytefcahmhfjblpaa
open Go.RowKit

set_option maxHeartbeats 400000 in
set_option maxRecDepth 100000 in
theorem put_false (a : Addr) (v m : Int) (w : World) (h : m < 0 ∨ 32 < m) :
    Calls Try.prog 7 #[.pointer (some a), .int .u32 v, .int .i64 m] w fun e w' => e = .returned (.bool false) ∧ w = w' := by
  rcases h with h | h
  · go_enter Try.func7, Try.ntmps7
    go_wp2
    go_ret
    exact ⟨rfl, rfl⟩
  · go_enter Try.func7, Try.ntmps7
    go_wp2
    go_ret
    exact ⟨rfl, rfl⟩

/-- The world behind a Put that fills no word. -/
theorem ws_low {w : World} {b off N n rest v m : Nat} {p : Option Addr} {us : List Nat} (hlow : n % 64 + m < 64)
    (h0 : w.cell? ⟨b, off, none⟩ = some (.pointer p)) (h1 : w.cell? ⟨b, off + 1, none⟩ = some (.int .u64 (rest : Int))) (h2 : w.cell? ⟨b, off + 2, none⟩ = some (.int .i64 (n : Int)))
    (f0 : w.frozen? ⟨b, off, none⟩ = false) (f1 : w.frozen? ⟨b, off + 1, none⟩ = false) (f2 : w.frozen? ⟨b, off + 2, none⟩ = false) (hn : NotT w b 55) (hc : Chain w p us) (hw : Bm.WOk N n rest us) :
    WS ((w.setCell ⟨b, off + 1, none⟩ (.int .u64 ((rest ||| v % 2 ^ m * 2 ^ (n % 64) % 2 ^ 64 : Nat) : Int))).setCell ⟨b, off + 2, none⟩ (.int .i64 ((n + m : Nat) : Int))) b off (N + v % 2 ^ m * 2 ^ n) (n + m) ∧
      w.grownBy ((w.setCell ⟨b, off + 1, none⟩ (.int .u64 ((rest ||| v % 2 ^ m * 2 ^ (n % 64) % 2 ^ 64 : Nat) : Int))).setCell ⟨b, off + 2, none⟩ (.int .i64 ((n + m : Nat) : Int))) (some b) := by
  have hg : w.grownBy ((w.setCell ⟨b, off + 1, none⟩ (.int .u64 ((rest ||| v % 2 ^ m * 2 ^ (n % 64) % 2 ^ 64 : Nat) : Int))).setCell ⟨b, off + 2, none⟩ (.int .i64 ((n + m : Nat) : Int))) (some b) :=
    grown_set (grown_set (grown_refl _ _) _ _) _ _
  refine ⟨⟨p, _, us, ?_, ?_, ?_, ?_, ?_, ?_, (hn.setCell _ _).setCell _ _, hc.keep (words_grown hg (fun g e => by injection e with e; subst e; exact hn)), hw.put_low v m hlow⟩, hg⟩
  · rw [World.cell?_setCell_other _ _ _ _ (by intro e; injection e with _ e _; omega), World.cell?_setCell_other _ _ _ _ (by intro e; injection e with _ e _; omega)]; exact h0
  · rw [World.cell?_setCell_other _ _ _ _ (by intro e; injection e with _ e _; omega), World.cell?_setCell_same _ _ _ h1]
  · rw [World.cell?_setCell_same _ _ _ (show _ = some (.int .i64 (n : Int)) from by rw [World.cell?_setCell_other _ _ _ _ (by intro e; injection e with _ e _; omega)]; exact h2)]
  · simpa using f0
  · simpa using f1
  · simpa using f2

set_option maxHeartbeats 400000 in
set_option maxRecDepth 100000 in
theorem put_low (b off N n : Nat) (v m : Nat) (w : World) (hn : n ≤ 1000000000) (hv : v < 4294967296) (hm : m ≤ 32) (hlow : n % 64 + m < 64) (h : WS w b off N n) :
    Calls Try.prog 7 #[.pointer (some ⟨b, off, none⟩), .int .u32 (v : Int), .int .i64 (m : Int)] w fun e w' => e = .returned (.bool true) ∧ WS w' b off (N + v % 2 ^ m * 2 ^ n) (n + m) ∧ w.grownBy w' (some b) := by
  obtain ⟨p, rest, us, h0, h1, h2, f0, f1, f2, hnt, hc, hw⟩ := h
  have hz := ws_low (v := v) (m := m) hlow h0 h1 h2 f0 f1 f2 hnt hc hw
  have Hz := Lib.hid hz
  have ho := or_val rest (v % 2 ^ m) (n % 64) hw.rest_lt
  have Ho := Lib.hid ho
  clear hz ho hc hw hnt f0
  go_enter Try.func7, Try.ntmps7
  go_wp2_with fail
  refine (lowest_any v m _ (by omega) (by omega)).mono ?_
  rintro e w' ⟨rfl, rfl⟩
  go_wp2
  go_region
  all_goals go_wp2
  go_ret
  rw [modpow, Ho.out, ← Int.natCast_add]
  exact ⟨rfl, Hz.out.1.drew, grown_drew Hz.out.2⟩

/-- The world behind a Put that fills a word: its four stores, and the new word. -/
def highW (w : World) (b off n rest x m : Nat) (p : Option Addr) : World :=
  ((((w.setCell ⟨b, off + 1, none⟩ (.int .u64 ((rest ||| x * 2 ^ (n % 64) % 2 ^ 64 : Nat) : Int))).setCell ⟨b, off + 2, none⟩ (.int .i64 ((n + m : Nat) : Int))).setCell ⟨b, off, none⟩ (.pointer (some ⟨w.heap.size, 0, none⟩))).setCell
    ⟨b, off + 1, none⟩ (.int .u64 ((x / 2 ^ (64 - n % 64) : Nat) : Int))).alloc (.cells #[.pointer p, .int .u64 ((rest ||| x * 2 ^ (n % 64) % 2 ^ 64 : Nat) : Int)] 55)
theorem ws_high {w : World} {b off N n rest v m : Nat} {p : Option Addr} {us : List Nat} (hm : m ≤ 32) (hge : 64 ≤ n % 64 + m)
    (h0 : w.cell? ⟨b, off, none⟩ = some (.pointer p)) (h1 : w.cell? ⟨b, off + 1, none⟩ = some (.int .u64 (rest : Int))) (h2 : w.cell? ⟨b, off + 2, none⟩ = some (.int .i64 (n : Int)))
    (f0 : w.frozen? ⟨b, off, none⟩ = false) (f1 : w.frozen? ⟨b, off + 1, none⟩ = false) (f2 : w.frozen? ⟨b, off + 2, none⟩ = false) (hn : NotT w b 55) (hc : Chain w p us) (hw : Bm.WOk N n rest us) :
    WS (highW w b off n rest (v % 2 ^ m) m p) b off (N + v % 2 ^ m * 2 ^ n) (n + m) ∧ w.grownBy (highW w b off n rest (v % 2 ^ m) m p) (some b) := by
  have hg0 : w.grownBy ((((w.setCell ⟨b, off + 1, none⟩ (.int .u64 ((rest ||| v % 2 ^ m * 2 ^ (n % 64) % 2 ^ 64 : Nat) : Int))).setCell ⟨b, off + 2, none⟩ (.int .i64 ((n + m : Nat) : Int))).setCell ⟨b, off, none⟩
      (.pointer (some ⟨w.heap.size, 0, none⟩))).setCell ⟨b, off + 1, none⟩ (.int .u64 ((v % 2 ^ m / 2 ^ (64 - n % 64) : Nat) : Int))) (some b) := grown_set (grown_set (grown_set (grown_set (grown_refl _ _) _ _) _ _) _ _) _ _
  have hs0 : ((((w.setCell ⟨b, off + 1, none⟩ (.int .u64 ((rest ||| v % 2 ^ m * 2 ^ (n % 64) % 2 ^ 64 : Nat) : Int))).setCell ⟨b, off + 2, none⟩ (.int .i64 ((n + m : Nat) : Int))).setCell ⟨b, off, none⟩
      (.pointer (some ⟨w.heap.size, 0, none⟩))).setCell ⟨b, off + 1, none⟩ (.int .u64 ((v % 2 ^ m / 2 ^ (64 - n % 64) : Nat) : Int))).heap.size = w.heap.size := by simp
  have hg : w.grownBy (highW w b off n rest (v % 2 ^ m) m p) (some b) := grown_alloc hg0 _
  have hb := hn.lt
  have hrow : Row (highW w b off n rest (v % 2 ^ m) m p) w.heap.size 55 [.pointer p, .int .u64 ((rest ||| v % 2 ^ m * 2 ^ (n % 64) % 2 ^ 64 : Nat) : Int)] := by
    have := Row.new ((((w.setCell ⟨b, off + 1, none⟩ (.int .u64 ((rest ||| v % 2 ^ m * 2 ^ (n % 64) % 2 ^ 64 : Nat) : Int))).setCell ⟨b, off + 2, none⟩ (.int .i64 ((n + m : Nat) : Int))).setCell ⟨b, off, none⟩
      (.pointer (some ⟨w.heap.size, 0, none⟩))).setCell ⟨b, off + 1, none⟩ (.int .u64 ((v % 2 ^ m / 2 ^ (64 - n % 64) : Nat) : Int))) 55 [.pointer p, .int .u64 ((rest ||| v % 2 ^ m * 2 ^ (n % 64) % 2 ^ 64 : Nat) : Int)]
    rw [hs0] at this
    exact this
  have ne1 : (⟨b, off + 1, none⟩ : Addr) ≠ ⟨b, off, none⟩ := by intro e; injection e with _ e _; omega
  have ne2 : (⟨b, off + 2, none⟩ : Addr) ≠ ⟨b, off, none⟩ := by intro e; injection e with _ e _; omega
  have ne3 : (⟨b, off + 2, none⟩ : Addr) ≠ ⟨b, off + 1, none⟩ := by intro e; injection e with _ e _; omega
  refine ⟨⟨some ⟨w.heap.size, 0, none⟩, _, _ :: us, ?_, ?_, ?_, ?_, ?_, ?_, ((((hn.setCell _ _).setCell _ _).setCell _ _).setCell _ _).alloc _, ⟨_, p, rfl, hrow, hc.keep (words_grown hg (fun g e => by injection e with e; subst e; exact hn))⟩, hw.put_high v m hm hge⟩, hg⟩ <;>
    unfold highW
  · rw [World.cell?_alloc_lt _ _ _ (by simpa using hb), World.cell?_setCell_other _ _ _ _ ne1]
    exact World.cell?_setCell_same _ _ _ (u := .pointer p) (by rw [World.cell?_setCell_other _ _ _ _ ne2, World.cell?_setCell_other _ _ _ _ ne1]; exact h0)
  · rw [World.cell?_alloc_lt _ _ _ (by simpa using hb)]
    exact World.cell?_setCell_same _ _ _ (u := .int .u64 ((rest ||| v % 2 ^ m * 2 ^ (n % 64) % 2 ^ 64 : Nat) : Int)) (by
      rw [World.cell?_setCell_other _ _ _ _ ne1.symm, World.cell?_setCell_other _ _ _ _ ne3]; exact World.cell?_setCell_same _ _ _ h1)
  · rw [World.cell?_alloc_lt _ _ _ (by simpa using hb), World.cell?_setCell_other _ _ _ _ ne3.symm, World.cell?_setCell_other _ _ _ _ ne2.symm]
    exact World.cell?_setCell_same _ _ _ (u := .int .i64 (n : Int)) (by rw [World.cell?_setCell_other _ _ _ _ ne3.symm]; exact h2)
  · rw [World.frozen?_alloc_past _ _ _ (by simpa using hb)]; simpa using f0
  · rw [World.frozen?_alloc_past _ _ _ (by simpa using hb)]; simpa using f1
  · rw [World.frozen?_alloc_past _ _ _ (by simpa using hb)]; simpa using f2

set_option maxHeartbeats 1000000 in
set_option maxRecDepth 100000 in
theorem put_high (b off N n : Nat) (v m : Nat) (w : World) (hn : n ≤ 1000000000) (hv : v < 4294967296) (hm : m ≤ 32) (hge : 64 ≤ n % 64 + m) (h : WS w b off N n) :
    Calls Try.prog 7 #[.pointer (some ⟨b, off, none⟩), .int .u32 (v : Int), .int .i64 (m : Int)] w fun e w' => e = .returned (.bool true) ∧ WS w' b off (N + v % 2 ^ m * 2 ^ n) (n + m) ∧ w.grownBy w' (some b) := by
  obtain ⟨p, rest, us, h0, h1, h2, f0, f1, f2, hnt, hc, hw⟩ := h
  have hz := ws_high (v := v) (m := m) hm hge h0 h1 h2 f0 f1 f2 hnt hc hw
  have Hz := Lib.hid hz
  have ho := or_val rest (v % 2 ^ m) (n % 64) hw.rest_lt
  have Ho := Lib.hid ho
  have hb := hnt.lt
  have hd : ((v % 2 ^ m : Nat) : Int) / 2 ^ (64 - n % 64) = ((v % 2 ^ m / 2 ^ (64 - n % 64) : Nat) : Int) := by simp
  have Hd := Lib.hid hd
  clear hz ho hc hw hnt hd
  go_enter Try.func7, Try.ntmps7
  go_wp2_with fail
  refine (lowest_any v m _ (by omega) (by omega)).mono ?_
  rintro e w' ⟨rfl, rfl⟩
  go_wp2
  go_region
  all_goals go_wp2
  go_region
  all_goals go_wp2
  go_ret
  rw [modpow, Ho.out, Hd.out, ← Int.natCast_add]
  exact ⟨rfl, Hz.out.1.drew.drew, grown_drew (grown_drew Hz.out.2)⟩

/-- Put of 0 to 32 bits: they are behind those that were there; no other block has changed but by new ones. -/
theorem put_true (b off N n : Nat) (v m : Nat) (w : World) (hn : n ≤ 1000000000) (hv : v < 4294967296) (hm : m ≤ 32) (h : WS w b off N n) :
    Calls Try.prog 7 #[.pointer (some ⟨b, off, none⟩), .int .u32 (v : Int), .int .i64 (m : Int)] w fun e w' => e = .returned (.bool true) ∧ WS w' b off (N + v % 2 ^ m * 2 ^ n) (n + m) ∧ w.grownBy w' (some b) := by
  by_cases hl : n % 64 + m < 64
  · exact put_low b off N n v m w hn hv hm hl h
  · exact put_high b off N n v m w hn hv hm (by omega) h
end Go.Proofs.Ytefcahmhfjblpaa
