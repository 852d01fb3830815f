/-
  The program's layer 14 (exec), by its walk: Size. Conditions: as the theorem's premises say.
-/
import Derived.Test.YtjcehdibklndkaaJc
import Derived.RegionTactic
import Derived.BigQuiet
namespace Go.Proofs.Ytjcehdibklndkaa
open Go.RowKit

theorem sizeZ_map {n : Nat} {l : List Bm.StZ} {k : Nat} (hk : k < l.length) : Bm.sizeZ n (l.drop k) = Bm.sizeZ (min (n + min l[k].2.1.toNat 1099511627776) 1099511627776) (l.drop (k + 1)) := by
  rw [List.drop_eq_getElem_cons hk, Bm.sizeZ]
set_option maxHeartbeats 4000000 in
set_option maxRecDepth 100000 in
theorem jsize_any (L : List Nat) (A : Option Addr) (c : Nat) (l : List Bm.StZ) (w : World) (hL : L.length ≤ 1000000000) (hl : l.length ≤ 1000000000) (hok : ZOk l) (hr : StzR w A l) :
    Calls Try.prog 9 #[.string (strOf L), .slice A l.length c] w fun e w' => e = .returned (.int .i64 (Bm.sizeZ L.length l : Int)) ∧ Below w.heap.size w w' := by
  have hsL := strOf_size L
  have Hr := Lib.hid hr
  have Hok := Lib.hid hok
  obtain ⟨N, hN⟩ : ∃ N, Bm.sizeZ L.length l = N := ⟨_, rfl⟩
  rw [hN]
  have HN := Lib.hid hN
  have Hhd := Lib.hid (fun n k (hk : k < l.length) (h : Bm.sizeZ n (l.drop k) = N) => (sizeZ_map hk).symm.trans h)
  clear hr hok hN
  generalize strOf L = sL at *
  go_enter Try.func9, Try.ntmps9
  go_wp2
  go_loopw [5, 12] (fun nv kv wr => ∃ (n k : Nat), k ≤ l.length ∧ n ≤ 1099511627776 ∧ nv = .int .i64 (n : Int) ∧ kv = .int .i64 (k : Int) ∧ Hid (Bm.sizeZ n (l.drop k) = N) ∧ Hid (Below w.heap.size w wr)) (fun _ kv _ => l.length - (intOf kv).toNat)
  case atStart => exact ⟨L.length, 0, Nat.zero_le _, by omega, rfl, rfl, HN, Lib.hid (Below.refl _ _)⟩
  case round =>
    obtain ⟨n, k, hk, hn, rfl, rfl, hq, hbel⟩ := hrel
    clear HN
    by_cases hkl : k < l.length
    · obtain ⟨g, off, rfl, hg, hc⟩ := (Hr.out.below hbel.out) (by omega)
      obtain ⟨c0, c1, c2⟩ := hc k hkl
      have hq2 := Hhd.out n k hkl hq.out
      obtain ⟨⟨x0, x1⟩, ⟨m0, m1⟩, o0, o1⟩ := Hok.out l[k] (List.getElem_mem hkl)
      have dd : decide ((k : Int) < (l.length : Int)) = true := decide_eq_true (by omega)
      generalize l[k].1 = x at *
      generalize l[k].2.1 = m at *
      generalize l[k].2.2 = o at *
      have hbA := (Below.refl wr.heap.size wr).alloc (Nat.le_refl _) (.cells #[.int .i64 x, .int .i64 m, .int .i64 o] 37)
      have HbA := Lib.hid (hbel.out.trans (hbA.mono hbel.out.size))
      obtain ⟨y, hy⟩ : ∃ y : Nat, y = min m.toNat 1099511627776 := ⟨_, rfl⟩
      obtain ⟨z, hz⟩ : ∃ z : Nat, z = min (n + y) 1099511627776 := ⟨_, rfl⟩
      rw [← hy, ← hz] at hq2
      have Hq2 := Lib.hid hq2
      have hyl : y ≤ 1099511627776 := by omega
      have hzl : z ≤ 1099511627776 := by omega
      obtain ⟨u, hu⟩ : ∃ u : Nat, u = m.toNat := ⟨_, rfl⟩
      have e1 : max m 0 = (u : Int) := by omega
      have e2 : min (u : Int) 1099511627776 = (y : Int) := by omega
      have e3 : min ((n : Int) + (y : Int)) 1099511627776 = (z : Int) := by omega
      clear hc hq hq2 Hhd hbA hbel hy hz hu
      go_wp2
      go_roundw
      case rel => exact ⟨z, k + 1, by omega, hzl, by go_num, by go_num, Hq2, HbA⟩
      case measure => simp [intOf]; omega
    · obtain rfl : k = l.length := by omega
      have dd : decide ((l.length : Int) < (l.length : Int)) = false := decide_eq_false (by omega)
      have e := hq.out
      rw [List.drop_length, Bm.sizeZ] at e
      subst e
      go_wp2
      go_ret
      exact ⟨rfl, hbel.out⟩
end Go.Proofs.Ytjcehdibklndkaa
