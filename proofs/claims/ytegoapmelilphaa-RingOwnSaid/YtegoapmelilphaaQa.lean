/-
  Add and Clear of layer 18 (ring), by their walks; on nobody's Ring they do nothing. Conditions: as each theorem's premises say (a record of at most 2^48 bytes).
-/
import Derived.Test.YtegoapmelilphaaQr
import Derived.RegionTactic
import Derived.ChangeAlike
import Derived.Deep.RegionHeld3
namespace Go.Proofs.Ytegoapmelilphaa
open Go.RowKit

set_option maxHeartbeats 1000000 in
set_option maxRecDepth 100000 in
theorem ringadd_any (b m : Nat) (l : List ByteArray) (s : ByteArray) (w : World) (hs : s.size ≤ 281474976710656) (h : RG w b m l) :
    Calls Try.prog 8 #[.pointer (some ⟨b, 0, none⟩), .string s] w fun e w' => e = .returned (.tuple #[]) ∧ RG w' b m (Bm.lastL m (l ++ [s])) ∧ w.grownBy w' (some b) := by
  obtain ⟨C, f, hrow, hC, hsz⟩ := h
  have hm1 := hC.m1
  have hm64 := hC.m64
  have hf := hC.f0
  have hlm := hC.len
  have hp64 := hC.pos l.length hlm
  have hpi : (Bm.posR f m l.length : Int) < 64 := by omega
  obtain ⟨s0, hs0⟩ := hC.all (Bm.posR f m l.length) hp64
  have Hat := Lib.hid (fun (W : World) (i : Nat) (hi : i ≤ m) h1 h2 => ringat_any b m f i W hm1 hm64 hf hi h1 h2)
  have Hroom := Lib.hid (fun (W : World) h1 => ringroom_at b m W hm1 hm64 h1)
  have Hcl := Lib.hid (fun W => sclone_any s W hs)
  have cn := (hrow.cell 66).trans hC.cn
  have cp := (hrow.cell 64).trans hC.cp
  have cf := (hrow.cell 65).trans hC.cf
  have Hcp := Lib.hid cp
  have Hcf := Lib.hid cf
  have Hcn := Lib.hid cn
  have Hrow := Lib.hid hrow
  have HC := Lib.hid hC
  have Hs0 := Lib.hid hs0
  have Hsz := Lib.hid (fun x hx => hsz x hx)
  clear hrow hC hs0 cp cf hsz
  go_enter Try.func8, Try.ntmps8
  go_wp2_with fail
  refine wp_region_held_drew (S := (fun W : World => W.cell? ⟨b, 66, none⟩ = some (.int .i64 (l.length : Int)))) (by kernel_rfl) (by exact Hcn.out) (fun hHeld => ?_)
  refine wpAnyH_take (i := 0) (oi := { dst := some 6, op := Go.Op.move (Go.Operand.tmp 0), type := 24, pos := "ring.go:30", after := #[], guard := none }) (v := ?_) rfl (by kernel_rfl) (by kernel_rfl) (by kernel_rfl) (fun _ _ _ h => h) (Or.inl ⟨by rfl, ?_⟩) (by assumption) ?_
  rotate_left
  · (intro w hSw; (try dsimp only at hSw); go_simp; (try with_reducible rfl))
  try simp only [Act.put, List.setIfInBounds_toArray, List.set_cons_zero, List.set_cons_succ]
  refine wpAnyH_take (i := 1) (oi := { dst := some 7, op := Go.Op.move (Go.Operand.tmp 0), type := 24, pos := "ring.go:30", after := #[], guard := none }) (v := ?_) rfl (by kernel_rfl) (by kernel_rfl) (by kernel_rfl) (fun _ _ _ h => h) (Or.inl ⟨by rfl, ?_⟩) (by assumption) ?_
  rotate_left
  · (intro w hSw; (try dsimp only at hSw); go_simp; (try with_reducible rfl))
  try simp only [Act.put, List.setIfInBounds_toArray, List.set_cons_zero, List.set_cons_succ]
  refine wpAnyH_take (i := 2) (oi := { dst := some 8, op := Go.Op.move (Go.Operand.tmp 0), type := 24, pos := "ring.go:30", after := #[], guard := none }) (v := ?_) rfl (by kernel_rfl) (by kernel_rfl) (by kernel_rfl) (fun _ _ _ h => h) (Or.inl ⟨by rfl, ?_⟩) (by assumption) ?_
  rotate_left
  · (intro w hSw; (try dsimp only at hSw); go_simp; (try with_reducible rfl))
  try simp only [Act.put, List.setIfInBounds_toArray, List.set_cons_zero, List.set_cons_succ]
  refine wpAnyH_take (i := 3) (oi := { dst := some 9, op := Go.Op.nilCheck (Go.Operand.tmp 8), type := 0, pos := "ring.go:30", after := #[{ on := 2, ground := Go.Ground.data }], guard := none }) (v := ?_) rfl (by kernel_rfl) (by kernel_rfl) (by kernel_rfl) (fun _ _ _ h => h) (Or.inl ⟨by rfl, ?_⟩) (by assumption) ?_
  rotate_left
  · (intro w hSw; (try dsimp only at hSw); go_simp; (try with_reducible rfl))
  try simp only [Act.put, List.setIfInBounds_toArray, List.set_cons_zero, List.set_cons_succ]
  refine wpAnyH_take (i := 4) (oi := { dst := some 10, op := Go.Op.fieldAddr 37 (Go.Operand.tmp 9) 3, type := 0, pos := "ring.go:30", after := #[{ on := 3, ground := Go.Ground.data }], guard := none }) (v := ?_) rfl (by kernel_rfl) (by kernel_rfl) (by kernel_rfl) (fun _ _ _ h => h) (Or.inl ⟨by rfl, ?_⟩) (by assumption) ?_
  rotate_left
  · (intro w hSw; (try dsimp only at hSw); go_simp; (try with_reducible rfl))
  try simp only [Act.put, List.setIfInBounds_toArray, List.set_cons_zero, List.set_cons_succ]
  refine wpAnyH_take (i := 5) (oi := { dst := some 11, op := Go.Op.load 3 (Go.Operand.tmp 10), type := 3, pos := "ring.go:30", after := #[{ on := 4, ground := Go.Ground.data }], guard := none }) (v := ?_) rfl (by kernel_rfl) (by kernel_rfl) (by kernel_rfl) (fun _ _ _ h => h) (Or.inl ⟨by rfl, ?_⟩) (by assumption) ?_
  rotate_left
  · (intro w hSw; (try dsimp only at hSw); go_simp; (try with_reducible rfl))
  try simp only [Act.put, List.setIfInBounds_toArray, List.set_cons_zero, List.set_cons_succ]
  refine wpAnyH_take (i := 7) (oi := { dst := some 13, op := Go.Op.move (Go.Operand.tmp 1), type := 9, pos := "ring.go:30", after := #[], guard := none }) (v := ?_) rfl (by kernel_rfl) (by kernel_rfl) (by kernel_rfl) (fun _ _ _ h => h) (Or.inl ⟨by rfl, ?_⟩) (by assumption) ?_
  rotate_left
  · (intro w hSw; (try dsimp only at hSw); go_simp; (try with_reducible rfl))
  try simp only [Act.put, List.setIfInBounds_toArray, List.set_cons_zero, List.set_cons_succ]
  refine wpAnyH_take (i := 9) (oi := { dst := some 15, op := Go.Op.nilCheck (Go.Operand.tmp 6), type := 0, pos := "ring.go:30", after := #[{ on := 0, ground := Go.Ground.data }], guard := none }) (v := ?_) rfl (by kernel_rfl) (by kernel_rfl) (by kernel_rfl) (fun _ _ _ h => h) (Or.inl ⟨by rfl, ?_⟩) (by assumption) ?_
  rotate_left
  · (intro w hSw; (try dsimp only at hSw); go_simp; (try with_reducible rfl))
  try simp only [Act.put, List.setIfInBounds_toArray, List.set_cons_zero, List.set_cons_succ]
  refine wpAnyH_take (i := 10) (oi := { dst := some 16, op := Go.Op.fieldAddr 37 (Go.Operand.tmp 15) 0, type := 0, pos := "ring.go:30", after := #[{ on := 9, ground := Go.Ground.data }], guard := none }) (v := ?_) rfl (by kernel_rfl) (by kernel_rfl) (by kernel_rfl) (fun _ _ _ h => h) (Or.inl ⟨by rfl, ?_⟩) (by assumption) ?_
  rotate_left
  · (intro w hSw; (try dsimp only at hSw); go_simp; (try with_reducible rfl))
  try simp only [Act.put, List.setIfInBounds_toArray, List.set_cons_zero, List.set_cons_succ]
  refine wpAnyH_ready (rs := [6]) (by kernel_rfl) (by simp) ?_
  refine AllReadyH.cons (o := { dst := some 12, op := Go.Op.call { callee := Go.Callee.value (Go.Operand.func 17), args := #[Go.Operand.tmp 7, Go.Operand.tmp 11], argTypes := #[24, 3] }, type := 3, pos := "ring.go:30", after := #[{ on := 1, ground := Go.Ground.data }, { on := 5, ground := Go.Ground.data }], guard := none }) rfl (fun K hK => ?_) AllReadyH.nil
  go_simp
  (go_at_call 17; refine (Hat.out w.drew l.length hlm Hcp.out Hcf.out).mono ?_; rintro e w1 ⟨rfl, k, rfl⟩)
  go_simp
  refine hK.out _ _ (by exact Hcn.out) (fun hHeld => ?_)
  clear hK K
  try simp only [Act.put, List.setIfInBounds_toArray, List.set_cons_zero, List.set_cons_succ]
  refine wpAnyH_ready (rs := [8]) (by kernel_rfl) (by simp) ?_
  refine AllReadyH.cons (o := { dst := some 14, op := Go.Op.call { callee := Go.Callee.value (Go.Operand.func 16), args := #[Go.Operand.tmp 13], argTypes := #[9] }, type := 9, pos := "ring.go:30", after := #[{ on := 7, ground := Go.Ground.data }, { on := 6, ground := Go.Ground.chain }], guard := none }) rfl (fun K hK => ?_) AllReadyH.nil
  go_simp
  (go_at_call 16; refine (Hcl.out _).mono ?_; rintro e w2 ⟨rfl, hb2⟩; have HB2 := Lib.hid (show Below w.heap.size w w2 from ⟨hb2.os, hb2.tape, hb2.output, hb2.size, hb2.block⟩); have hrow2 := Hrow.out.keep (HB2.out.block b Hrow.out.lt); have c2 := (hrow2.cell (Bm.posR f m l.length)).trans Hs0.out; have f2 := hrow2.free (Bm.posR f m l.length); have Hrow2 := Lib.hid hrow2; clear hrow2 hb2)
  go_simp
  refine hK.out _ _ (by exact (Hrow2.out.cell 66).trans HC.out.cn) (fun hHeld => ?_)
  clear hK K
  try simp only [Act.put, List.setIfInBounds_toArray, List.set_cons_zero, List.set_cons_succ]
  refine wpAnyH_take (i := 11) (oi := { dst := some 17, op := Go.Op.indexAddr 35 (Go.Operand.tmp 16) (Go.Operand.tmp 12), type := 0, pos := "ring.go:30", after := #[{ on := 10, ground := Go.Ground.data }, { on := 6, ground := Go.Ground.data }, { on := 0, ground := Go.Ground.phase }, { on := 1, ground := Go.Ground.phase }, { on := 2, ground := Go.Ground.phase }, { on := 3, ground := Go.Ground.phase }, { on := 4, ground := Go.Ground.phase }, { on := 5, ground := Go.Ground.phase }, { on := 6, ground := Go.Ground.phase }, { on := 7, ground := Go.Ground.phase }, { on := 8, ground := Go.Ground.phase }], guard := none }) (v := ?_) rfl (by kernel_rfl) (by kernel_rfl) (by kernel_rfl) (fun _ _ _ h => h) (Or.inl ⟨by rfl, ?_⟩) (by assumption) ?_
  rotate_left
  · (intro w hSw; (try dsimp only at hSw); go_simp; (try with_reducible rfl))
  try simp only [Act.put, List.setIfInBounds_toArray, List.set_cons_zero, List.set_cons_succ]
  refine wpAnyH_ready (rs := [12]) (by kernel_rfl) (by simp) ?_
  refine AllReadyH.cons (o := { dst := none, op := Go.Op.store 9 (Go.Operand.tmp 17) (Go.Operand.tmp 14), type := 0, pos := "ring.go:30", after := #[{ on := 11, ground := Go.Ground.data }, { on := 8, ground := Go.Ground.data }, { on := 8, ground := Go.Ground.chain }, { on := 0, ground := Go.Ground.phase }, { on := 1, ground := Go.Ground.phase }, { on := 2, ground := Go.Ground.phase }, { on := 3, ground := Go.Ground.phase }, { on := 4, ground := Go.Ground.phase }, { on := 5, ground := Go.Ground.phase }, { on := 6, ground := Go.Ground.phase }, { on := 7, ground := Go.Ground.phase }, { on := 8, ground := Go.Ground.phase }], guard := none }) rfl (fun K hK => ?_) AllReadyH.nil
  go_simp
  refine hK.out _ _ (by exact ((Hrow2.out.set_ (Bm.posR f m l.length) (.string s)).cell 66).trans ((rget_ne _ _ _ _ (by omega)).trans HC.out.cn)) (fun hHeld => ?_)
  clear hK K
  try simp only [Act.put, List.setIfInBounds_toArray, List.set_cons_zero, List.set_cons_succ]
  refine wpAnyH_done (by kernel_rfl) ?_ _
  have hrow3 := Hrow2.out.set_ (Bm.posR f m l.length) (.string s)
  have hg3 := grown_set (grown_below HB2.out (some b)) (Bm.posR f m l.length) (.string s)
  have c66 := (hrow3.cell 66).trans ((rget_ne _ _ _ _ (by omega)).trans HC.out.cn)
  have c64 := (hrow3.cell 64).trans ((rget_ne _ _ _ _ (by omega)).trans HC.out.cp)
  have c65 := (hrow3.cell 65).trans ((rget_ne _ _ _ _ (by omega)).trans HC.out.cf)
  have e65 := hrow3.free 65
  have e66 := hrow3.free 66
  have Hrow3 := Lib.hid hrow3
  have Hg3 := Lib.hid hg3
  have H64 := Lib.hid c64
  have H65 := Lib.hid c65
  clear hrow3 hg3 Hrow2 HB2 c2 f2 Hcp Hcf Hcn cn Hs0 Hcl
  generalize w2.setCell ⟨b, Bm.posR f m l.length, none⟩ (.string s) = w3 at *
  have Hsz2 := Lib.hid (show ∀ x ∈ Bm.lastL m (l ++ [s]), x.size ≤ 281474976710656 from fun x hx => by
    rcases List.mem_append.1 (Bm.lastL_mem hx) with h1 | h1
    · exact Hsz.out x h1
    · rw [List.mem_singleton.1 h1]; exact hs)
  clear Hsz hs hpi
  by_cases hlt : l.length < m
  · have Hgr := Lib.hid (HC.out.grow s hlt)
    rw [Int.natCast_add] at Hgr
    have HL := Lib.hid (Bm.lastL_room m l s hlt)
    rw [HL.out] at Hsz2
    clear Hat HC
    generalize Bm.posR f m l.length = pp at *
    generalize hn : l.length = n at *
    clear hn
    go_wp2_with fail
    go_quiet ((go_at_call 18; exact quiet_leftS (Hroom.out _ H64.out)))
    go_wp2
    go_end0
    rw [HL.out]
    exact ⟨rfl, ⟨_, f, (Hrow3.out.keep rfl).set_ 66 _, Hgr.out, Hsz2.out⟩, grown_set (grown_drewN Hg3.out nq) 66 _⟩
  · obtain rfl : l.length = m := by omega
    have Hgr := Lib.hid (HC.out.turn s rfl)
    have Hp1 := Lib.hid (fun W h1 h2 => Hat.out W 1 hm1 h1 h2)
    rw [Bm.posR_full f _ hf] at *
    have HL := Lib.hid (Bm.lastL_full _ l s hm1 rfl)
    rw [HL.out] at Hsz2
    clear Hat HC
    generalize Bm.posR f l.length 1 = pp at *
    go_wp2_with fail
    go_quiet ((go_at_call 18; exact quiet_leftS (Hroom.out _ H64.out)))
    go_wp2_with fail
    refine (Hp1.out (w3.drewN nq) H64.out H65.out).mono ?_
    rintro e w4 ⟨rfl, q, rfl⟩
    go_wp2
    go_end0
    rw [HL.out]
    exact ⟨rfl, ⟨_, pp, (Hrow3.out.keep rfl).set_ 65 _, Hgr.out, Hsz2.out⟩, grown_set (grown_drewN Hg3.out (nq + q)) 65 _⟩
set_option maxHeartbeats 400000 in
set_option maxRecDepth 100000 in
theorem ringadd_nil (s : ByteArray) (w : World) : Calls Try.prog 8 #[.pointer none, .string s] w fun e w' => e = .returned (.tuple #[]) ∧ w = w' := by
  go_enter Try.func8, Try.ntmps8
  go_wp2
  refine bodyPost_ret (results_none rfl _ _ _) rfl ?_
  exact ⟨rfl, rfl⟩
set_option maxHeartbeats 400000 in
set_option maxRecDepth 100000 in
theorem ringclear_nil (w : World) : Calls Try.prog 15 #[.pointer none] w fun e w' => e = .returned (.tuple #[]) ∧ w = w' := by
  go_enter Try.func15, Try.ntmps15
  go_wp2
  go_end0
  exact ⟨rfl, rfl⟩
theorem setRow_row {w : World} {g : Nat} {t : TypeId} {cs ds : List Value} (h : Row w g t cs) : Row (w.setRow g ds.toArray) g t ds := by
  unfold Row at h ⊢
  exact setRow_heap w g cs.toArray ds.toArray t (0, 0) h
theorem setRow_grown (w : World) (g : Nat) (ds : List Value) : w.grownBy (w.setRow g ds.toArray) (some g) :=
  ⟨rfl, rfl, rfl, by simp [World.setRow], fun k _ hn => by
    have hne : g ≠ k := fun e => hn (by rw [e])
    simp [World.setRow, Array.getElem?_modify, hne]⟩
set_option maxHeartbeats 1000000 in
set_option maxRecDepth 100000 in
theorem ringclear_any (b m : Nat) (l : List ByteArray) (w : World) (h : RG w b m l) :
    Calls Try.prog 15 #[.pointer (some ⟨b, 0, none⟩)] w fun e w' => e = .returned (.tuple #[]) ∧ RG w' b m [] ∧ w.grownBy w' (some b) := by
  obtain ⟨C, f, hrow, hC, hsz⟩ := h
  have cp := (hrow.cell 64).trans hC.cp
  have hz := ringzero
  have hzs := ringzero_set (m : Int)
  have hzn := ringzero_ne
  have hzl := ringzero_lt
  have Hz67 := Lib.hid (ringzero_size (m : Int))
  have Hone := Lib.hid (ringzero_one (m : Int))
  have Hrc := Lib.hid (RCells.new m hC.m1 hC.m64)
  have Hsz := Lib.hid hC.size
  have Hrow := Lib.hid hrow
  clear hrow hC hsz
  generalize ringZ (m : Int) = Z2 at *
  generalize (ringZ 0).toArray = Z at *
  go_enter Try.func15, Try.ntmps15
  go_wp2_with (refine wpList_store_row rfl 37 _ _ rfl b Z2.toArray rfl rfl 37 C.toArray Hrow.out (by rw [List.size_toArray, Hz67.out]; exact ring_info) (by rw [List.size_toArray, List.size_toArray, Hz67.out, Hsz.out]) Hone.out ?_)
  go_end0
  exact ⟨rfl, ⟨Z2, 0, setRow_row Hrow.out, Hrc.out, fun s hs => by simp at hs⟩, setRow_grown w b Z2⟩
end Go.Proofs.Ytegoapmelilphaa
