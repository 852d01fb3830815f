/-
  The reference of layer 3 (cursor): First by its walk. Conditions: as the theorem's premises say (up to a hundred million bytes).
-/
import Derived.Test.YtfopnbfaaikghaaCr
import Derived.Test.YtfopnbfaaikghaaCn
import Derived.Deep.RegionWith
import Derived.Deep.DeepCutAuto
import Derived.IntWalk
namespace Go.Proofs.Ytfopnbfaaikghaa
open Go.RowKit

set_option maxHeartbeats 2000000 in
set_option maxRecDepth 100000 in
theorem ffirst_any (l : List Nat) (w : World) (hl : l.length ≤ 100000000) (hlt : ∀ x ∈ l, x < 256) :
    Calls Try.prog 45 #[.string (strOf l)] w fun e w' => e = .returned (.tuple #[.int .u64 ((Bm.firstG l).1 : Int), .int .i64 ((Bm.firstG l).2 : Int)]) ∧ Below w.heap.size w w' := by
  have hsz := strOf_size l
  have hidx : ∀ (i : Nat) (W : World) (hi : i < l.length), (Instr.index 9 (.string (strOf l)) (.int .i64 (i : Int))).run Try.prog W = .ok (.int .u8 ((l[i] : Nat) : Int)) W := fun i W hi => index_at l i W hi (hlt _ (List.getElem_mem hi))
  have hto := str_to l
  have hle := Bm.lead_le l
  obtain ⟨n, hn⟩ : ∃ n, n = l.length := ⟨_, rfl⟩
  obtain ⟨f1, f2, hF⟩ : ∃ f1 f2, Bm.firstG l = (f1, f2) := ⟨_, _, rfl⟩
  rw [hF]
  rw [← hn] at hsz hl
  have HF := Lib.hid hF
  have Hn := Lib.hid hn
  have Hidx := Lib.hid hidx
  have Hto := Lib.hid hto
  have Hlt := Lib.hid hlt
  have Hle := Lib.hid hle
  clear hn hidx hto hlt hF hle
  generalize strOf l = s at hsz Hidx Hto ⊢
  go_enter Try.func45, Try.ntmps45
  go_wp2
  go_loop [4] (fun i => ∃ k : Nat, k ≤ n ∧ Hid (k ≤ Bm.lead l) ∧ i = .int .i64 (k : Int)) (fun i => n - (intOf i).toNat)
  case atStart => exact ⟨0, by omega, Nat.zero_le _, rfl⟩
  case round =>
    obtain ⟨k, hkn, hkl, rfl⟩ := hrel
    by_cases hlt : k < n
    · have hk1 : k < l.length := by rw [← Hn.out]; exact hlt
      have hx := fun W => Hidx.out k W hk1
      have hc8 := Hlt.out l[k] (List.getElem_mem hk1)
      have hup := fun h => Bm.lead_up l k hkl.out hk1 h
      have hat := fun h => Bm.lead_at l k hkl.out hk1 h
      have Hup := Lib.hid hup
      have Hat := Lib.hid hat
      clear hup hat
      generalize l[k] = c at hx hc8 Hup Hat
      clear hk1
      by_cases h128 : 128 ≤ c
      · go_wp2
        go_round
        case rel => exact ⟨k + 1, by omega, Hup.out h128, by go_num⟩
        case measure => simp [intOf]; omega
      · have hlead : Bm.lead l = k := Hat.out (by omega)
        have Hlead := Lib.hid hlead
        clear hlead
        have hknb : ((k : Int) == (n : Int)) = false := by simp; omega
        by_cases h9 : 9 < k
        · have hres : f1 = 0 ∧ f2 = 0 := by
            have h1 := HF.out
            rw [Bm.firstG_long l (.inr (by rw [Hlead.out]; exact h9))] at h1
            injection h1 with h1 h2
            exact ⟨h1.symm, h2.symm⟩
          obtain ⟨rfl, rfl⟩ := hres
          go_wp2
          go_ret2
          exact ⟨rfl, Below.refl _ _⟩
        · obtain ⟨V0, hV0⟩ : ∃ V, V = Bm.val7 (l.take (k + 1)) := ⟨_, rfl⟩
          obtain ⟨all, hall⟩ : ∃ L, L = l.take (k + 1) := ⟨_, rfl⟩
          have hlen : all.length = k + 1 := by rw [hall, List.length_take, ← Hn.out]; omega
          have hget : ∀ j (h : j < all.length) (h2 : j < l.length), all[j] = l[j] := fun j h h2 => by
            have e : (l.take (k + 1))[j]'(by rw [← hall]; exact h) = l[j] := List.getElem_take
            rw [← e]; congr 1
          have Hget := Lib.hid hget
          have Hall := Lib.hid hall
          have Hlen := Lib.hid hlen
          rw [← hall] at hV0
          have HV0 := Lib.hid hV0
          clear hV0 hall hlen hget Hup Hat
          have hk9 : (k : Int) ≤ 9 := by omega
          go_wp2
          clear hx hc8 h128
          go_loop [5, 6] (fun v i => ∃ j V : Nat, j ≤ k + 1 ∧ i = .int .i64 ((j : Int) - 1) ∧ v = .int .u64 (V : Int) ∧ Hid (V = Bm.val7 (all.drop j)) ∧ Hid (V < 2 ^ 64)) (fun _ i => (intOf i + 1).toNat)
          case atStart => exact ⟨k + 1, 0, Nat.le_refl _, by go_num, rfl, by unfold Hid; rw [List.drop_of_length_le (by rw [Hlen.out]; exact Nat.le_refl _)]; rfl, by unfold Hid; decide⟩
          case round =>
            obtain ⟨j, V, hj, rfl, rfl, hV, h64⟩ := hrel
            rcases j with _ | j
            · have hVV : V = Bm.val7 all := by have := hV.out; rwa [List.drop_zero] at this
              have hg := fun W => fgroup_any V W h64.out
              have hto1 := Hto.out (k + 1) (by rw [← Hn.out]; omega)
              rw [← Hall.out, show ((k + 1 : Nat) : Int) = (k : Int) + 1 by omega] at hto1
              have hfg := HF.out
              unfold Bm.firstG at hfg
              rw [Hlead.out, ← Hall.out, ← hVV, if_neg (by rw [← Hn.out]; omega)] at hfg
              by_cases hgq : Bm.grp V = all
              · rw [if_pos ⟨h64.out, hgq⟩] at hfg
                obtain ⟨rfl, rfl⟩ : V = f1 ∧ k + 1 = f2 := by injection hfg with h1 h2; exact ⟨h1, h2⟩
                rw [hgq] at hg
                have Hg := Lib.hid hg
                clear hfg hg hVV hgq
                generalize strOf all = sa at hto1 Hg
                go_wp2
                have hwr : IntKind.i64.wrap ((k : Int) + 1) = (k : Int) + 1 := IntWalk.i64_in _ (by omega)
                go_cut [48] (fun s48 wx => s48 = .bool false ∧ Below w.heap.size w wx)
                case first =>
                  go_region_with (go_at_call 40; refine (Hg.out _).mono ?_; rintro e w1 ⟨rfl, hb⟩; have Hb1 := Lib.hid ((Below.refl w.heap.size w).drew.trans hb); clear hb)
                  all_goals (go_wp2_with fail; go_meet; exact ⟨rfl, Hb1.out⟩)
                case rest =>
                  obtain ⟨rfl, hbc⟩ := hcut
                  go_wp2
                  go_ret2
                  exact ⟨by first | rfl | go_num, hbc⟩
              · rw [if_neg (fun h => hgq h.2)] at hfg
                obtain ⟨rfl, rfl⟩ : 0 = f1 ∧ 0 = f2 := by injection hfg with h1 h2; exact ⟨h1, h2⟩
                have hne := strOf_beq (Bm.grp V) all (Bm.grp_lt V h64.out) (by rw [Hall.out]; exact take_lt Hlt.out _)
                rw [decide_eq_false hgq] at hne
                have hne2 : ((strOf (Bm.grp V)).toList != (strOf all).toList) = true := by rw [bne, hne]; rfl
                have Hg := Lib.hid hg
                clear hfg hg hVV hgq
                generalize strOf all = sa at hto1 hne hne2
                generalize strOf (Bm.grp V) = sb at hne hne2 Hg
                go_wp2
                have hwr : IntKind.i64.wrap ((k : Int) + 1) = (k : Int) + 1 := IntWalk.i64_in _ (by omega)
                go_cut [48] (fun s48 wx => s48 = .bool true ∧ Below w.heap.size w wx)
                case first =>
                  go_region_with (go_at_call 40; refine (Hg.out _).mono ?_; rintro e w1 ⟨rfl, hb⟩; have Hb1 := Lib.hid ((Below.refl w.heap.size w).drew.trans hb); clear hb)
                  all_goals (go_wp2_with fail; go_meet; exact ⟨rfl, Hb1.out⟩)
                case rest =>
                  obtain ⟨rfl, hbc⟩ := hcut
                  go_wp2
                  go_ret2
                  exact ⟨rfl, hbc⟩
            · have hjl : j < l.length := by have := Hn.out; omega
              have hja : j < all.length := by have := Hlen.out; omega
              have hx := fun W => Hidx.out j W hjl
              have hc8 := Hlt.out l[j] (List.getElem_mem hjl)
              have hstep := Bm.val7_drop all j hja
              rw [Hget.out j hja hjl, ← hV.out] at hstep
              have Hstep := Lib.hid hstep
              clear hstep
              rw [show ((j + 1 : Nat) : Int) - 1 = (j : Int) by omega]
              generalize l[j] = c at hx hc8 Hstep
              clear hjl
              by_cases hbig : 144115188075855871 < V
              · have hres : f1 = 0 ∧ f2 = 0 := by
                  have h1 := HF.out
                  have h2 := Bm.val7_big all (j + 1) (by omega) (by rw [← hV.out]; exact hbig)
                  unfold Bm.firstG at h1
                  rw [Hlead.out, ← Hall.out, if_neg (by rw [← Hn.out]; omega), if_neg (fun h => h2 h.1)] at h1
                  injection h1 with h1 h2
                  exact ⟨h1.symm, h2.symm⟩
                obtain ⟨rfl, rfl⟩ := hres
                go_wp2
                go_ret2
                exact ⟨rfl, Below.refl _ _⟩
              · go_wp2
                go_round
                case rel => exact ⟨j, c % 128 + 128 * V, by omega, by go_num, by go_num, Hstep.out.symm, by unfold Hid; omega⟩
                case measure => simp [intOf]
    · have hres : f1 = 0 ∧ f2 = 0 := by
        have h1 := HF.out
        have h2 := hkl.out
        have h3 := Hle.out
        have h4 := Hn.out
        rw [Bm.firstG_long l (.inl (by omega))] at h1
        injection h1 with h1 h2
        exact ⟨h1.symm, h2.symm⟩
      obtain ⟨rfl, rfl⟩ := hres
      obtain rfl : k = n := by omega
      go_wp2
      go_ret2
      exact ⟨rfl, Below.refl _ _⟩
end Go.Proofs.Ytfopnbfaaikghaa
