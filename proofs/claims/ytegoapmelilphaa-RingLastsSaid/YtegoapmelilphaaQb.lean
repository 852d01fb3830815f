/-
  All and Bytes of layer 18 (ring), by their walks, of a Ring or of nobody's. Conditions: as each theorem's premises say.
-/
import Derived.Test.YtegoapmelilphaaQr
import Derived.RegionTactic
import Derived.ChangeAlike
import Derived.Deep.RegionHeld3
namespace Go.Proofs.Ytegoapmelilphaa
open Go.RowKit

/-- A Ring, or nobody's. -/
def RP (w : World) (p : Option Addr) (m : Nat) (l : List ByteArray) : Prop := (p = none ∧ l = []) ∨ ∃ b, p = some ⟨b, 0, none⟩ ∧ RG w b m l
theorem RG.some {w : World} {b m : Nat} {l : List ByteArray} (h : RG w b m l) : RP w (some ⟨b, 0, none⟩) m l := Or.inr ⟨b, rfl, h⟩
theorem RP.nobody (w : World) : RP w none 1 [] := Or.inl ⟨rfl, rfl⟩
theorem RP.below {w w' : World} {p : Option Addr} {m : Nat} {l : List ByteArray} (h : RP w p m l) (hb : Below w.heap.size w w') : RP w' p m l :=
  h.imp id fun ⟨b, e, hr⟩ => ⟨b, e, hr.below hb⟩
theorem RP.small {w : World} {p : Option Addr} {m : Nat} {l : List ByteArray} (h : RP w p m l) : l.length ≤ 64 ∧ ∀ s ∈ l, s.size ≤ 281474976710656 := by
  rcases h with ⟨_, rfl⟩ | ⟨b, _, hr⟩
  · exact ⟨Nat.zero_le _, fun s hs => by simp at hs⟩
  · obtain ⟨_, h2, h3, h4⟩ := hr.small
    exact ⟨Nat.le_trans h3 h2, h4⟩
theorem RP.ring {w : World} {p : Option Addr} {m : Nat} {l : List ByteArray} (h : RP w p m l) (h0 : 0 < l.length) : ∃ b, p = some ⟨b, 0, none⟩ ∧ RG w b m l := by
  rcases h with ⟨_, rfl⟩ | h
  · simp at h0
  · exact h
theorem ringlen_any (p : Option Addr) (m : Nat) (l : List ByteArray) (w : World) (h : RP w p m l) :
    Calls Try.prog 10 #[.pointer p] w fun e w' => e = .returned (.int .i64 (l.length : Int)) ∧ w = w' := by
  rcases h with ⟨rfl, rfl⟩ | ⟨b, rfl, hr⟩
  · exact ringlen_nil w
  · exact ringlen_at b m l w hr

set_option maxHeartbeats 1000000 in
set_option maxRecDepth 100000 in
theorem ringall_any (p : Option Addr) (m : Nat) (l : List ByteArray) (w : World) (h : RP w p m l) :
    Calls Try.prog 14 #[.pointer p] w fun e w' => ∃ g, e = .returned (.slice (some ⟨g, 0, none⟩) l.length l.length) ∧ w.heap.size ≤ g ∧ Row w' g 9 (strC l) ∧ Below w.heap.size w w' := by
  have Hlen := Lib.hid (ringlen_any p m l w h)
  have hl64 := h.small.1
  have H := Lib.hid h
  clear h
  obtain ⟨i0, hi, hz0, hz1, hz2⟩ := info_parts info_str
  obtain ⟨g, hg⟩ : ∃ g, g = w.heap.size := ⟨_, rfl⟩
  have Hg := Lib.hid hg
  clear hg
  go_enter Try.func14, Try.ntmps14
  go_wp2_with fail
  refine Hlen.out.mono ?_
  rintro e w' ⟨rfl, rfl⟩
  clear Hlen
  go_wp2_with (at_make; refine wpList_make_full _ rfl _ _ 22 rfl w.heap.size 9 i0 (.string ⟨#[]⟩) 1 Try.underlying22 hi hz0 hz1 .i64 .i64 _ _ l.length rfl rfl ?c1 ?c1 ?c2 ?c3 ?c4 ?_)
  case c1 => rfl
  case c2 => rw [hz2]; omega
  case c3 => unfold maxLen; omega
  case c4 => exact Nat.le_refl _
  intro w1 hown1 hg1
  have hb1 := below_of_grown hg1
  have hr1 := row_of_ownS hown1
  rw [← Bm.fillS_zero, ← Hg.out] at hr1
  rw [← Hg.out]
  have Hb1 := Lib.hid hb1
  have Hr1 := Lib.hid hr1
  clear hown1 hg1 hb1 hr1 hi hz0 hz1 hz2
  go_wp2
  go_loopw [4, 10] (fun _ i wr => ∃ k : Nat, k ≤ l.length ∧ i = .int .i64 (k : Int) ∧ Hid (Row wr g 9 (strC (Bm.fillS l k))) ∧ Hid (Below w.heap.size w wr)) (fun _ i _ => l.length - (intOf i).toNat)
  case atStart => exact ⟨0, Nat.zero_le _, rfl, Hr1, Hb1⟩
  case round =>
    obtain ⟨k, hk, rfl, hrow, hbel⟩ := hrel
    clear Hr1 Hb1
    by_cases hkl : k < l.length
    · obtain ⟨b, rfl, C, f, hR, hC, _⟩ := H.out.ring (by omega)
      have hkm := hC.len
      have hbl := hR.lt
      have hpi := hC.pos k (by omega)
      have hpi2 : (Bm.posR f m k : Int) < 64 := by omega
      have hRr : Row wr b 37 C := hR.keep (hbel.out.block b hbl)
      have Hat := Lib.hid (ringat_any b m f k wr.drew hC.m1 hC.m64 hC.f0 (by omega) ((hRr.cell 64).trans hC.cp) ((hRr.cell 65).trans hC.cf))
      have Hck := Lib.hid ((hRr.cell (Bm.posR f m k)).trans (hC.cs k hkl))
      have HRr := Lib.hid hRr
      have Hcs := Lib.hid (hC.cs k hkl)
      have Hnx := Lib.hid (Bm.fillS_next l k hkl)
      have gc := (hrow.out.cell k).trans (strC_get? _ k (by rw [Bm.fillS_length l k (by omega)]; exact hkl))
      have gf := hrow.out.free k
      have Hgb := Lib.hid (show b ≠ g by rw [Hg.out]; omega)
      clear hR hC hRr H
      generalize l[k] = s at *
      generalize (Bm.fillS l k)[k]'_ = s0 at gc
      have hkI : (k : Int) < (l.length : Int) := by omega
      go_wp2_with fail
      refine wp_region_held_drew (S := (fun W : World => W.cell? ⟨b, Bm.posR f m k, none⟩ = some (.string s))) (by kernel_rfl) (by exact Hck.out) (fun hHeld => ?_)
      refine wpAnyH_take (i := 0) (oi := { dst := some 13, op := Go.Op.move (Go.Operand.tmp 3), type := 22, pos := "ring.go:50", after := #[], guard := none }) (v := ?_) rfl (by kernel_rfl) (by kernel_rfl) (by kernel_rfl) (fun _ _ _ h => h) (Or.inl ⟨by rfl, ?_⟩) (by assumption) ?_
      rotate_left
      · (intro w hSw; (try dsimp only at hSw); go_simp; (try with_reducible rfl))
      try simp only [Act.put, List.setIfInBounds_toArray, List.set_cons_zero, List.set_cons_succ]
      refine wpAnyH_take (i := 1) (oi := { dst := some 14, op := Go.Op.move (Go.Operand.tmp 4), type := 3, pos := "ring.go:50", after := #[], guard := none }) (v := ?_) rfl (by kernel_rfl) (by kernel_rfl) (by kernel_rfl) (fun _ _ _ h => h) (Or.inl ⟨by rfl, ?_⟩) (by assumption) ?_
      rotate_left
      · (intro w hSw; (try dsimp only at hSw); go_simp; (try with_reducible rfl))
      try simp only [Act.put, List.setIfInBounds_toArray, List.set_cons_zero, List.set_cons_succ]
      refine wpAnyH_take (i := 2) (oi := { dst := some 15, op := Go.Op.move (Go.Operand.tmp 0), type := 24, pos := "ring.go:50", after := #[], guard := none }) (v := ?_) rfl (by kernel_rfl) (by kernel_rfl) (by kernel_rfl) (fun _ _ _ h => h) (Or.inl ⟨by rfl, ?_⟩) (by assumption) ?_
      rotate_left
      · (intro w hSw; (try dsimp only at hSw); go_simp; (try with_reducible rfl))
      try simp only [Act.put, List.setIfInBounds_toArray, List.set_cons_zero, List.set_cons_succ]
      refine wpAnyH_take (i := 3) (oi := { dst := some 16, op := Go.Op.move (Go.Operand.tmp 0), type := 24, pos := "ring.go:50", after := #[], guard := none }) (v := ?_) rfl (by kernel_rfl) (by kernel_rfl) (by kernel_rfl) (fun _ _ _ h => h) (Or.inl ⟨by rfl, ?_⟩) (by assumption) ?_
      rotate_left
      · (intro w hSw; (try dsimp only at hSw); go_simp; (try with_reducible rfl))
      try simp only [Act.put, List.setIfInBounds_toArray, List.set_cons_zero, List.set_cons_succ]
      refine wpAnyH_take (i := 4) (oi := { dst := some 17, op := Go.Op.move (Go.Operand.tmp 4), type := 3, pos := "ring.go:50", after := #[], guard := none }) (v := ?_) rfl (by kernel_rfl) (by kernel_rfl) (by kernel_rfl) (fun _ _ _ h => h) (Or.inl ⟨by rfl, ?_⟩) (by assumption) ?_
      rotate_left
      · (intro w hSw; (try dsimp only at hSw); go_simp; (try with_reducible rfl))
      try simp only [Act.put, List.setIfInBounds_toArray, List.set_cons_zero, List.set_cons_succ]
      refine wpAnyH_take (i := 6) (oi := { dst := some 19, op := Go.Op.nilCheck (Go.Operand.tmp 15), type := 0, pos := "ring.go:50", after := #[{ on := 2, ground := Go.Ground.data }], guard := none }) (v := ?_) rfl (by kernel_rfl) (by kernel_rfl) (by kernel_rfl) (fun _ _ _ h => h) (Or.inl ⟨by rfl, ?_⟩) (by assumption) ?_
      rotate_left
      · (intro w hSw; (try dsimp only at hSw); go_simp; (try with_reducible rfl))
      try simp only [Act.put, List.setIfInBounds_toArray, List.set_cons_zero, List.set_cons_succ]
      refine wpAnyH_take (i := 7) (oi := { dst := some 20, op := Go.Op.fieldAddr 37 (Go.Operand.tmp 19) 0, type := 0, pos := "ring.go:50", after := #[{ on := 6, ground := Go.Ground.data }], guard := none }) (v := ?_) rfl (by kernel_rfl) (by kernel_rfl) (by kernel_rfl) (fun _ _ _ h => h) (Or.inl ⟨by rfl, ?_⟩) (by assumption) ?_
      rotate_left
      · (intro w hSw; (try dsimp only at hSw); go_simp; (try with_reducible rfl))
      try simp only [Act.put, List.setIfInBounds_toArray, List.set_cons_zero, List.set_cons_succ]
      refine wpAnyH_ready (rs := [5]) (by kernel_rfl) (by simp) ?_
      refine AllReadyH.cons (o := { dst := some 18, op := Go.Op.call { callee := Go.Callee.value (Go.Operand.func 17), args := #[Go.Operand.tmp 16, Go.Operand.tmp 17], argTypes := #[24, 3] }, type := 3, pos := "ring.go:50", after := #[{ on := 3, ground := Go.Ground.data }, { on := 4, ground := Go.Ground.data }], guard := none }) rfl (fun K hK => ?_) AllReadyH.nil
      go_simp
      (go_at_call 17; refine Hat.out.mono ?_; rintro e w2 ⟨rfl, q, rfl⟩)
      go_simp
      refine hK.out _ _ (by exact Hck.out) (fun hHeld => ?_)
      clear hK K
      try simp only [Act.put, List.setIfInBounds_toArray, List.set_cons_zero, List.set_cons_succ]
      refine wpAnyH_take (i := 8) (oi := { dst := some 21, op := Go.Op.indexAddr 35 (Go.Operand.tmp 20) (Go.Operand.tmp 18), type := 0, pos := "ring.go:50", after := #[{ on := 7, ground := Go.Ground.data }, { on := 5, ground := Go.Ground.data }], guard := none }) (v := ?_) rfl (by kernel_rfl) (by kernel_rfl) (by kernel_rfl) (fun _ _ _ h => h) (Or.inl ⟨by rfl, ?_⟩) (by assumption) ?_
      rotate_left
      · (intro w hSw; (try dsimp only at hSw); go_simp; (try with_reducible rfl))
      try simp only [Act.put, List.setIfInBounds_toArray, List.set_cons_zero, List.set_cons_succ]
      refine wpAnyH_take (i := 9) (oi := { dst := some 22, op := Go.Op.load 9 (Go.Operand.tmp 21), type := 9, pos := "ring.go:50", after := #[{ on := 8, ground := Go.Ground.data }], guard := none }) (v := ?_) rfl (by kernel_rfl) (by kernel_rfl) (by kernel_rfl) (fun _ _ _ h => h) (Or.inl ⟨by rfl, ?_⟩) (by assumption) ?_
      rotate_left
      · (intro w hSw; (try dsimp only at hSw); go_simp; (try with_reducible rfl))
      try simp only [Act.put, List.setIfInBounds_toArray, List.set_cons_zero, List.set_cons_succ]
      refine wpAnyH_take (i := 10) (oi := { dst := some 23, op := Go.Op.indexAddr 22 (Go.Operand.tmp 13) (Go.Operand.tmp 14), type := 0, pos := "ring.go:50", after := #[{ on := 0, ground := Go.Ground.data }, { on := 1, ground := Go.Ground.data }, { on := 0, ground := Go.Ground.phase }, { on := 1, ground := Go.Ground.phase }, { on := 2, ground := Go.Ground.phase }, { on := 3, ground := Go.Ground.phase }, { on := 4, ground := Go.Ground.phase }, { on := 5, ground := Go.Ground.phase }, { on := 6, ground := Go.Ground.phase }, { on := 7, ground := Go.Ground.phase }, { on := 8, ground := Go.Ground.phase }, { on := 9, ground := Go.Ground.phase }], guard := none }) (v := ?_) rfl (by kernel_rfl) (by kernel_rfl) (by kernel_rfl) (fun _ _ _ h => h) (Or.inl ⟨by rfl, ?_⟩) (by assumption) ?_
      rotate_left
      · (intro w hSw; (try dsimp only at hSw); go_simp; (try with_reducible rfl))
      try simp only [Act.put, List.setIfInBounds_toArray, List.set_cons_zero, List.set_cons_succ]
      refine wpAnyH_ready (rs := [11]) (by kernel_rfl) (by simp) ?_
      refine AllReadyH.cons (o := { dst := none, op := Go.Op.store 9 (Go.Operand.tmp 23) (Go.Operand.tmp 22), type := 0, pos := "ring.go:50", after := #[{ on := 10, ground := Go.Ground.data }, { on := 9, ground := Go.Ground.data }, { on := 5, ground := Go.Ground.chain }, { on := 0, ground := Go.Ground.phase }, { on := 1, ground := Go.Ground.phase }, { on := 2, ground := Go.Ground.phase }, { on := 3, ground := Go.Ground.phase }, { on := 4, ground := Go.Ground.phase }, { on := 5, ground := Go.Ground.phase }, { on := 6, ground := Go.Ground.phase }, { on := 7, ground := Go.Ground.phase }, { on := 8, ground := Go.Ground.phase }, { on := 9, ground := Go.Ground.phase }], guard := none }) rfl (fun K hK => ?_) AllReadyH.nil
      go_simp
      refine hK.out _ _ (by exact (((HRr.out.far (by exact Hgb.out) (.string s)).cell (Bm.posR f m k)).trans Hcs.out)) (fun hHeld => ?_)
      clear hK K
      try simp only [Act.put, List.setIfInBounds_toArray, List.set_cons_zero, List.set_cons_succ]
      refine wpAnyH_done (by kernel_rfl) ?_ _
      go_wp2
      go_roundw
      case rel =>
        refine ⟨k + 1, by omega, by go_num, Lib.hid ?_, Lib.hid ((show Below w.heap.size w (wr.drewN (1 + q)) from ⟨hbel.out.os, hbel.out.tape, hbel.out.output, hbel.out.size, hbel.out.block⟩).setCell (by show w.heap.size ≤ g; rw [Hg.out]; exact Nat.le_refl _) _)⟩
        rw [← Hnx.out, ← strC_set]
        exact (hrow.out.keep rfl).set_ k _
      case measure => simp [intOf]; omega
    · obtain rfl : k = l.length := by omega
      rw [Bm.fillS_all] at hrow
      go_wp2
      go_ret
      exact ⟨g, rfl, by rw [Hg.out]; exact Nat.le_refl _, hrow.out, hbel.out⟩
set_option maxHeartbeats 1000000 in
set_option maxRecDepth 100000 in
theorem ringbytes_any (p : Option Addr) (m : Nat) (l : List ByteArray) (w : World) (h : RP w p m l) :
    Calls Try.prog 11 #[.pointer p] w fun e w' => e = .returned (.int .i64 (Bm.sizeS l : Int)) ∧ Below w.heap.size w w' := by
  have Hall := Lib.hid (ringall_any p m l w h)
  obtain ⟨hl64, hsz⟩ := h.small
  have Hsz := Lib.hid hsz
  clear h hsz
  go_enter Try.func11, Try.ntmps11
  go_wp2_with fail
  refine Hall.out.mono ?_
  rintro e w1 ⟨g, rfl, hg, hr, hb⟩
  have Hr := Lib.hid hr
  have Hb := Lib.hid hb
  clear hr hb Hall hg
  go_wp2
  go_loop [3, 5, 9] (fun n _ i => ∃ k : Nat, k ≤ l.length ∧ i = .int .i64 (k : Int) ∧ n = .int .i64 (Bm.sizeS (l.take k) : Int)) (fun _ _ i => l.length - (intOf i).toNat)
  case atStart => exact ⟨0, Nat.zero_le _, rfl, rfl⟩
  case round =>
    obtain ⟨k, hk, rfl, rfl⟩ := hrel
    by_cases hkl : k < l.length
    · have c0 := (Hr.out.cell k).trans (strC_get? l k hkl)
      have hs := Hsz.out l[k] (List.getElem_mem hkl)
      have hB := Bm.sizeS_bound (l.take k) 64 (by rw [List.length_take]; omega) (fun s hs => Hsz.out s (List.mem_of_mem_take hs))
      have Hnx := Lib.hid (Bm.sizeS_take l k hkl)
      generalize l[k] = s at *
      generalize Bm.sizeS (l.take k) = n at *
      go_wp2
      go_round
      case rel => exact ⟨k + 1, by omega, by go_num, by rw [Hnx.out]; go_num⟩
      case measure => simp [intOf]; omega
    · obtain rfl : k = l.length := by omega
      rw [List.take_length]
      go_wp2
      go_ret
      exact ⟨rfl, Hb.out⟩
end Go.Proofs.Ytegoapmelilphaa
