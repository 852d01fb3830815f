/-
  BitsOwn (layer 1), the statement's own walk: it returns true and changes nothing that was there. No condition beyond that the arguments are a slice of bytes and a uint32.
-/
import Derived.Test.YtmgicikfmnflbaaWk
import Derived.Test.YtmgicikfmnflbaaAr
namespace Go.Proofs.Ytmgicikfmnflbaa
open Go.RowKit

set_option maxHeartbeats 400000 in
theorem own_short (A : Option Addr) (n c v : Nat) (w : World) (hv : v < 4294967296) (h : n = 0 ∨ 20 < n) (hn : n ≤ 9223372036854775807) :
    Calls Try.prog 5 #[.slice A n c, .int .u32 (v : Int)] w fun e w' => e = .returned (.bool true) ∧ Below w.heap.size w w' := by
  rcases h with h | h
  · subst h
    go_enter Try.func5, Try.ntmps5
    go_wp2_with fail
    refine (awake_any _).mono ?_
    rintro e w1 ⟨rfl, hb⟩
    go_wp2_with fail
    refine (width_any v _ hv).mono ?_
    rintro e w2 ⟨rfl, rfl⟩
    go_wp2_with fail
    refine (rwidth_any v _ hv).mono ?_
    rintro e w2 ⟨rfl, rfl⟩
    go_wp2
    go_ret
    exact ⟨by simp, hb⟩
  · go_enter Try.func5, Try.ntmps5
    go_wp2_with fail
    refine (awake_any _).mono ?_
    rintro e w1 ⟨rfl, hb⟩
    go_wp2_with fail
    refine (width_any v _ hv).mono ?_
    rintro e w2 ⟨rfl, rfl⟩
    go_wp2_with fail
    refine (rwidth_any v _ hv).mono ?_
    rintro e w2 ⟨rfl, rfl⟩
    go_wp2
    go_ret
    exact ⟨by simp, hb⟩

theorem val_first (bs : List Nat) (h : 0 < bs.length) (hb : ∀ x ∈ bs, x < 256) : Bm.valB bs / 2 ^ 0 % 2 ^ (Int.toNat 8) = bs[0] := by
  have h1 := hb bs[0] (List.getElem_mem h)
  rcases bs with _ | ⟨x, bs⟩
  · simp at h
  · simp only [List.getElem_cons_zero] at h1
    rw [List.getElem_cons_zero, Nat.pow_zero, Nat.div_one, Bm.valB, show (2 : Nat) ^ (Int.toNat 8) = 256 by decide]
    omega
theorem val_four (v : Nat) (h : v < 4294967296) : Bm.valB (Bm.bytesOf v 4) / 2 ^ 0 % 2 ^ (Int.toNat 32) = v := by
  rw [Bm.valB_bytesOf, Nat.pow_zero, Nat.div_one, show (256 : Nat) ^ 4 = 4294967296 by decide, show (2 : Nat) ^ (Int.toNat 32) = 4294967296 by decide, Nat.mod_mod, Nat.mod_eq_of_lt h]

set_option maxHeartbeats 1000000 in
theorem own_long (A : Option Addr) (n c v : Nat) (bs : List Nat) (w : World) (hv : v < 4294967296) (h0 : 0 < n) (h20 : n ≤ 20) (ha : ArgB w A n c bs) :
    Calls Try.prog 5 #[.slice A n c, .int .u32 (v : Int)] w fun e w' => e = .returned (.bool true) ∧ Below w.heap.size w w' := by
  obtain ⟨i0, hi, hz0, hz1, hz2⟩ := info_parts info_u8
  obtain ⟨hl, hbs, hrd, hA, hc, hm⟩ := ha
  obtain ⟨g, off, rfl, hcells⟩ := reads_u8 hrd (by intro h; rw [h] at hl; simp at hl; omega)
  have hg : g < w.heap.size := hA _ rfl h0
  have hc0 := hcells 0 (by omega)
  rw [Nat.add_zero] at hc0
  have hx := hbs (bs[0]'(by omega)) (List.getElem_mem _)
  have hval := val_first bs (by omega) hbs
  generalize hbx : bs[0]'(by omega) = x at hc0 hx hval
  have hbx' : (u8s bs)[0]? = some (.int .u8 (x : Int)) := by rw [u8s_get? bs 0 (by omega), hbx]
  have Hbx := Lib.hid hbx'
  have Hval := Lib.hid hval
  have Hcells := Lib.hid hcells
  have Hbs := Lib.hid hbs
  have Hl := Lib.hid hl
  have hn0 : ((n : Int) == 0) = false := by simp; omega
  have Hc0 := Lib.hid hc0
  clear hA hrd hcells hbs hc hm hbx' hbx hval hc0 hl
  go_enter Try.func5, Try.ntmps5
  go_wp2_with fail
  refine (awake_any _).mono ?_
  rintro e w1 ⟨rfl, hb1⟩
  have hown0 : (w1.alloc (.cells #[] 5)).ownsRow w1.heap.size 5 1 (.slice (some ⟨w1.heap.size, 0, none⟩) 0 0) 0 [] := World.ownsRow_lit w1 #[] 0 (Nat.le_refl _) (by unfold maxLen; omega) rfl
  have hnews : ∀ j u, (u8s bs)[j]? = some u → (w1.alloc (.cells #[] 5)).cell? ((⟨g, off, none⟩ : Addr).add j) = some u := by
    intro j u hj
    have hjl : j < bs.length := by
      rcases Nat.lt_or_ge j bs.length with h1 | h1
      · exact h1
      · rw [List.getElem?_eq_none (by rw [u8s_length]; exact h1)] at hj; cases hj
    rw [u8s_get? bs j hjl] at hj
    injection hj with hj
    have e : ((⟨g, off, none⟩ : Addr).add j) = ⟨g, off + j, none⟩ := by unfold Addr.add; split <;> simp_all
    rw [e, World.cell?_alloc_lt _ _ _ (by have := hb1.size; simp; omega), hb1.cell (p := ⟨g, off + j, none⟩) hg, Hcells.out j hjl, hj]
  have Hnews := Lib.hid hnews
  have Hown0 := Lib.hid hown0
  have Hb1 := Lib.hid hb1
  clear hnews hown0 hb1
  go_wp2_with (at_builtin; refine wpList_append_own _ rfl _ _ 35 rfl w1.heap.size 5 i0 (.int .u8 0) 1 1 Try.underlying35 hi hz0 hz1 hz2 rfl (by decide) _ _ _ rfl Hown0.out ⟨g, off, none⟩ n c (u8s bs) rfl ?c0 Hnews.out ?c2 ?c3 ?c4 ?c5 ?_)
  case c0 => rw [u8s_length, Hl.out, Nat.mul_one]
  case c2 => intro u hu; simp [u8s] at hu; obtain ⟨a, _, rfl⟩ := hu; rfl
  case c3 => unfold maxLen; omega
  case c4 => omega
  case c5 => simp
  intro v' w2 hown2 hgr2 _
  obtain ⟨gc, cap, hform, hgc, hgcl⟩ := own_form hown2 h0
  rw [hform] at hown2 ⊢
  have hrd2 : Reads w2 (some ⟨gc, 0, none⟩) (u8s bs) := by
    obtain ⟨A, c', e, h, _⟩ := own_reads hown2
    injection e with e1 e2 e3
    subst e1
    exact h
  have hb2 : Below w.heap.size w w2 := (Hb1.out.alloc Hb1.out.size _).grown hgr2 (by have := Hb1.out.size; simp; omega) (fun k e => by
    have : k = w1.heap.size := by simpa [Value.ownBlock] using e.symm
    rw [this]; exact Hb1.out.size)
  have hcc : w2.cell? ⟨gc, 0, none⟩ = some (.int .u8 (x : Int)) := by
    rw [hown2.cellAt 0 (by omega), Hbx.out]
  have hfc := hown2.frozenAt 0
  have Hrd2 := Lib.hid hrd2
  have Hb2 := Lib.hid hb2
  have hwg : w.heap.size ≤ gc := Nat.le_trans Hb1.out.size hgc
  clear hrd2 hb2 hown2 hgr2 hform hgc Hown0 Hnews
  -- the Reader of the copy
  go_wp2_with fail
  refine (newr_n (some ⟨gc, 0, none⟩) n cap bs w2 Hl.out Hbs.out Hrd2.out).mono ?_
  rintro e w3 ⟨rfl, hrs3, hb3⟩
  have hcc3 := (hb3.cell (p := ⟨gc, 0, none⟩) hgcl).trans hcc
  have hfc3 := (hb3.frozen (p := ⟨gc, 0, none⟩) hgcl).trans hfc
  have Hrs3 := Lib.hid hrs3
  have Hb3 := Lib.hid (Hb2.out.trans (hb3.mono Hb2.out.size))
  clear hrs3 hb3 hcc hfc
  go_wp2_with fail
  refine (take_int w2.heap.size 0 bs 0 8 _ (by rw [Hl.out]; omega) Hbs.out (by omega) (by omega) (by rw [Hl.out]; simp; omega) (Hrs3.out.keep (grown_set (grown_refl _ _) _ _) (by intro e; injection e with e; omega))).mono ?_
  rintro e w4 ⟨rfl, _, hg4⟩
  rw [Hval.out]
  have hs34 := hg4.size
  simp only [World.size_setCell] at hs34
  have hb4 : Below w.heap.size w w4 := (Hb3.out.setCell (p := ⟨gc, 0, none⟩) hwg _).trans (below_grown hg4 Hb2.out.size (by have := Hb3.out.size; simpa using this))
  have Hb4 := Lib.hid hb4
  clear hb4 hg4 hcc3 hfc3 hs34 Hb3
  -- a Writer of its own
  go_wp2_with fail
  refine (put_int w4.heap.size 0 0 0 v 32 _ (by omega) (by omega) (by omega) (by omega) (by omega) (WS.new w4 27 notW)).mono ?_
  rintro e w5 ⟨rfl, hs5, hg5⟩
  have hs5' : WS w5 w4.heap.size 0 v 32 := by
    have e : 0 + Int.toNat (v : Int) % 2 ^ Int.toNat 32 * 2 ^ 0 = v := by
      rw [Int.toNat_natCast, Nat.zero_add, Nat.pow_zero, Nat.mul_one, show (2 : Nat) ^ (Int.toNat 32) = 4294967296 by decide, Nat.mod_eq_of_lt hv]
    rw [e] at hs5
    exact hs5
  have hsz5 := hg5.size
  rw [World.size_alloc] at hsz5
  have hb5 : Below w.heap.size w w5 := (Hb4.out.alloc Hb4.out.size _).trans (below_grown hg5 Hb4.out.size (by have := Hb4.out.size; simp; omega))
  have Hb5 := Lib.hid hb5
  have Hs5 := Lib.hid hs5'
  clear hs5 hs5' hg5 hb5
  have hby5 : Calls Try.prog 10 #[.pointer (some ⟨w4.heap.size, 0, none⟩)] w5 fun e w' => ∃ g, e = .returned (.slice (some ⟨g, 0, none⟩) 4 4) ∧ w5.heap.size ≤ g ∧ Row w' g 5 (u8s (Bm.bytesOf v 4)) ∧ Below w5.heap.size w5 w' :=
    bytes_any w4.heap.size 0 v 32 w5 (by omega) Hs5.out
  have Hby5 := Lib.hid hby5
  clear hby5
  go_wp2_with fail
  refine Hby5.out.mono ?_
  rintro e w6 ⟨gd, rfl, hgd, hrow6, hb6⟩
  have hcd : w6.cell? ⟨gd, 0, none⟩ = some (.int .u8 ((v % 256 : Nat) : Int)) := by
    rw [hrow6.cell 0, u8s_get? _ _ (by rw [Bm.bytesOf_length]; omega), Bm.bytesOf_get]; simp
  have hfd := hrow6.free 0
  have hx256 : v % 256 < 256 := by omega
  have hgdl := hrow6.lt
  have Hn6 := Lib.hid (hrow6.notT (u := 51) (by decide))
  have Hs6 := Lib.hid (Hs5.out.keep (grown_below hb6 none) (by simp) (by simp))
  have Hb6 := Lib.hid (Hb5.out.trans (hb6.mono Hb5.out.size))
  clear hrow6 hb6 Hby5 Hs5
  generalize v % 256 = vx at hcd hx256
  go_wp2_with fail
  have hby7 : ∀ u, Calls Try.prog 10 #[.pointer (some ⟨w4.heap.size, 0, none⟩)] (w6.setCell ⟨gd, 0, none⟩ u) fun e w' => ∃ g, e = .returned (.slice (some ⟨g, 0, none⟩) 4 4) ∧ (w6.setCell ⟨gd, 0, none⟩ u).heap.size ≤ g ∧ Row w' g 5 (u8s (Bm.bytesOf v 4)) ∧ Below (w6.setCell ⟨gd, 0, none⟩ u).heap.size (w6.setCell ⟨gd, 0, none⟩ u) w' := fun u =>
    bytes_any w4.heap.size 0 v 32 _ (by omega) (Hs6.out.keep (row := some gd) (grown_set (grown_refl _ _) _ _) (by intro e; injection e with e; omega) (fun g e => by injection e with e; subst e; exact Hn6.out))
  refine (hby7 _).mono ?_
  rintro e w7 ⟨ge, rfl, hge, hrow7, hb7⟩
  have hwd : w.heap.size ≤ gd := Nat.le_trans Hb5.out.size hgd
  have Hb7 := Lib.hid ((Hb6.out.setCell (p := ⟨gd, 0, none⟩) hwd _).trans (hb7.mono (by have := Hb6.out.size; simpa using this)))
  have Hrd7 := Lib.hid (row_reads hrow7)
  clear hrow7 hb7 hby7 hcd hfd Hs6 Hn6
  go_wp2_with fail
  refine (newr_n (some ⟨ge, 0, none⟩) 4 4 (Bm.bytesOf v 4) w7 (Bm.bytesOf_length v 4) (Bm.bytesOf_lt v 4) Hrd7.out).mono ?_
  rintro e w8 ⟨rfl, hrs8, hb8⟩
  have Hrs8 := Lib.hid hrs8
  have Hb8 := Lib.hid (Hb7.out.trans (hb8.mono Hb7.out.size))
  have hs78 := hb8.size
  clear hrs8 hb8
  go_wp2_with fail
  refine (take_int w7.heap.size 0 (Bm.bytesOf v 4) 0 32 _ (by rw [Bm.bytesOf_length]; omega) (Bm.bytesOf_lt v 4) (by omega) (by omega) (by rw [Bm.bytesOf_length]; decide) Hrs8.out).mono ?_
  rintro e w9 ⟨rfl, _, hg9⟩
  rw [val_four v hv]
  have hb9 : Below w.heap.size w w9 := Hb8.out.trans (below_grown hg9 Hb7.out.size Hb8.out.size)
  have hcb : w9.cell? ⟨g, off, none⟩ = some (.int .u8 (x : Int)) := (hb9.cell (p := ⟨g, off, none⟩) hg).trans Hc0.out
  have Hb9 := Lib.hid hb9
  clear hb9 hg9 hs78
  go_wp2_with fail
  refine (take_nil _ _).mono ?_
  rintro e w10 ⟨rfl, rfl⟩
  go_wp2_with fail
  refine (width_any v _ hv).mono ?_
  rintro e w10 ⟨rfl, rfl⟩
  go_wp2_with fail
  refine (rwidth_any v _ hv).mono ?_
  rintro e w10 ⟨rfl, rfl⟩
  go_wp2_with fail
  refine (left_nil _).mono ?_
  rintro e w10 ⟨rfl, rfl⟩
  go_wp2
  go_ret
  exact ⟨by simp, Hb9.out⟩
end Go.Proofs.Ytmgicikfmnflbaa
