/-
  Append, At, Truncate, All, Old and Bytes of layer 26 (log), by their walks; of nobody's Log. Conditions: as each theorem's premises say.
-/
import Derived.Test.YtnaocegcnckhmaaJl
import Derived.Test.YtnaocegcnckhmaaJt
import Derived.Test.YtnaocegcnckhmaaOs
import Derived.Test.YtnaocegcnckhmaaQl
import Derived.RegionTactic
import Derived.ChangeAlike
import Derived.Deep.RegionHeld3
namespace Go.Proofs.Ytnaocegcnckhmaa
open Go.RowKit

set_option maxHeartbeats 1000000 in
set_option maxRecDepth 100000 in
theorem lgappend_any (b : Nat) (l : List ByteArray) (k : Nat) (s : ByteArray) (w : World) (h : LG w b l k) :
    Calls Try.prog 8 #[.pointer (some ⟨b, 0, none⟩), .string s] w fun e w' => e = .returned (.tuple #[.int .i64 ((Bm.lgApp l s).1 : Int), .int .i64 ((Bm.lgApp l s).2.1 : Int)]) ∧ LG w' b (Bm.lgApp l s).2.2 k ∧ w.grownBy w' (some b) := by
  have H := Lib.hid h
  by_cases hs : 512 < s.size
  · rw [Bm.lgApp_long l s hs]
    have hd : decide (512 < (s.size : Int)) = true := decide_eq_true (by omega)
    clear h
    go_enter Try.func8, Try.ntmps8
    go_wp2
    go_ret2
    exact ⟨rfl, H.out, grown_refl _ _⟩
  have hd : decide (512 < (s.size : Int)) = false := decide_eq_false (by omega)
  obtain ⟨C, hrow, hC, hsz⟩ := h
  have cn := (hrow.cell 400).trans hC.cn
  have h400 := hC.len
  by_cases hf : l.length = 400
  · rw [Bm.lgApp_full l s hs hf]
    rw [hf] at cn
    clear hrow hC hsz
    go_enter Try.func8, Try.ntmps8
    go_wp2
    go_ret2
    exact ⟨rfl, H.out, grown_refl _ _⟩
  rw [Bm.lgApp_yes l s hs hf]
  have hfd : ((l.length : Int) == 400) = false := by rw [beq_eq_false_iff_ne]; omega
  have hfe : (l.length == 400) = false := by rw [beq_eq_false_iff_ne]; exact hf
  have hlt : l.length < 400 := by omega
  obtain ⟨s0, hs0⟩ := hC.all l.length hlt
  have Hcl := Lib.hid (fun W => sclone_any s W (by omega))
  have Hs0 := Lib.hid hs0
  have HC := Lib.hid (hC.push s hlt)
  have HC0 := Lib.hid hC.cn
  have Hrow := Lib.hid hrow
  have Hsz2 := Lib.hid (show ∀ x ∈ l ++ [s], x.size ≤ 512 from fun x hx => by
    rcases List.mem_append.1 hx with h1 | h1
    · exact hsz x h1
    · rw [List.mem_singleton.1 h1]; omega)
  have hltI : (l.length : Int) < 400 := by omega
  clear hrow hC hs0 hsz H hs hf
  generalize hn : l.length = n at *
  go_enter Try.func8, Try.ntmps8
  go_wp2_with fail
  refine wp_region_held_drew (S := (fun _ : World => True)) (by kernel_rfl) (by exact True.intro) (fun hHeld => ?_)
  refine wpAnyH_take (i := 0) (oi := { dst := some 21, op := Go.Op.move (Go.Operand.tmp 0), type := 24, pos := "log.go:35", after := #[], guard := none }) (v := ?_) rfl (by kernel_rfl) (by kernel_rfl) (by kernel_rfl) (fun _ _ _ h => h) (Or.inl ⟨by rfl, ?_⟩) (by assumption) ?_
  rotate_left
  · (intro w hSw; (try dsimp only at hSw); go_simp; (try with_reducible rfl))
  try simp only [Act.put, List.setIfInBounds_toArray, List.set_cons_zero, List.set_cons_succ]
  refine wpAnyH_take (i := 1) (oi := { dst := some 22, op := Go.Op.move (Go.Operand.tmp 6), type := 3, pos := "log.go:35", after := #[], guard := none }) (v := ?_) rfl (by kernel_rfl) (by kernel_rfl) (by kernel_rfl) (fun _ _ _ h => h) (Or.inl ⟨by rfl, ?_⟩) (by assumption) ?_
  rotate_left
  · (intro w hSw; (try dsimp only at hSw); go_simp; (try with_reducible rfl))
  try simp only [Act.put, List.setIfInBounds_toArray, List.set_cons_zero, List.set_cons_succ]
  refine wpAnyH_take (i := 2) (oi := { dst := some 23, op := Go.Op.move (Go.Operand.tmp 1), type := 9, pos := "log.go:35", after := #[], guard := none }) (v := ?_) rfl (by kernel_rfl) (by kernel_rfl) (by kernel_rfl) (fun _ _ _ h => h) (Or.inl ⟨by rfl, ?_⟩) (by assumption) ?_
  rotate_left
  · (intro w hSw; (try dsimp only at hSw); go_simp; (try with_reducible rfl))
  try simp only [Act.put, List.setIfInBounds_toArray, List.set_cons_zero, List.set_cons_succ]
  refine wpAnyH_take (i := 4) (oi := { dst := some 25, op := Go.Op.nilCheck (Go.Operand.tmp 21), type := 0, pos := "log.go:35", after := #[{ on := 0, ground := Go.Ground.data }], guard := none }) (v := ?_) rfl (by kernel_rfl) (by kernel_rfl) (by kernel_rfl) (fun _ _ _ h => h) (Or.inl ⟨by rfl, ?_⟩) (by assumption) ?_
  rotate_left
  · (intro w hSw; (try dsimp only at hSw); go_simp; (try with_reducible rfl))
  try simp only [Act.put, List.setIfInBounds_toArray, List.set_cons_zero, List.set_cons_succ]
  refine wpAnyH_take (i := 5) (oi := { dst := some 26, op := Go.Op.fieldAddr 51 (Go.Operand.tmp 25) 0, type := 0, pos := "log.go:35", after := #[{ on := 4, ground := Go.Ground.data }], guard := none }) (v := ?_) rfl (by kernel_rfl) (by kernel_rfl) (by kernel_rfl) (fun _ _ _ h => h) (Or.inl ⟨by rfl, ?_⟩) (by assumption) ?_
  rotate_left
  · (intro w hSw; (try dsimp only at hSw); go_simp; (try with_reducible rfl))
  try simp only [Act.put, List.setIfInBounds_toArray, List.set_cons_zero, List.set_cons_succ]
  refine wpAnyH_ready (rs := [3]) (by kernel_rfl) (by simp) ?_
  refine AllReadyH.cons (o := { dst := some 24, op := Go.Op.call { callee := Go.Callee.value (Go.Operand.func 21), args := #[Go.Operand.tmp 23], argTypes := #[9] }, type := 9, pos := "log.go:35", after := #[{ on := 2, ground := Go.Ground.data }], guard := none }) rfl (fun K hK => ?_) AllReadyH.nil
  go_simp
  (go_at_call 21; refine (Hcl.out _).mono ?_; rintro e w2 ⟨rfl, hb2⟩; have HB2 := Lib.hid (show Below w.heap.size w w2 from ⟨hb2.os, hb2.tape, hb2.output, hb2.size, hb2.block⟩); have hrow2 := Hrow.out.keep (HB2.out.block b Hrow.out.lt); have c2 := (hrow2.cell n).trans Hs0.out; have f2 := hrow2.free n; have Hrow2 := Lib.hid hrow2; clear hrow2 hb2)
  go_simp
  refine hK.out _ _ (by exact True.intro) (fun hHeld => ?_)
  clear hK K
  try simp only [Act.put, List.setIfInBounds_toArray, List.set_cons_zero, List.set_cons_succ]
  refine wpAnyH_take (i := 6) (oi := { dst := some 27, op := Go.Op.indexAddr 49 (Go.Operand.tmp 26) (Go.Operand.tmp 22), type := 0, pos := "log.go:35", after := #[{ on := 5, ground := Go.Ground.data }, { on := 1, ground := Go.Ground.data }, { on := 0, ground := Go.Ground.phase }, { on := 1, ground := Go.Ground.phase }, { on := 2, ground := Go.Ground.phase }, { on := 3, ground := Go.Ground.phase }], guard := none }) (v := ?_) rfl (by kernel_rfl) (by kernel_rfl) (by kernel_rfl) (fun _ _ _ h => h) (Or.inl ⟨by rfl, ?_⟩) (by assumption) ?_
  rotate_left
  · (intro w hSw; (try dsimp only at hSw); go_simp; (try with_reducible rfl))
  try simp only [Act.put, List.setIfInBounds_toArray, List.set_cons_zero, List.set_cons_succ]
  refine wpAnyH_ready (rs := [7]) (by kernel_rfl) (by simp) ?_
  refine AllReadyH.cons (o := { dst := none, op := Go.Op.store 9 (Go.Operand.tmp 27) (Go.Operand.tmp 24), type := 0, pos := "log.go:35", after := #[{ on := 6, ground := Go.Ground.data }, { on := 3, ground := Go.Ground.data }, { on := 3, ground := Go.Ground.chain }, { on := 0, ground := Go.Ground.phase }, { on := 1, ground := Go.Ground.phase }, { on := 2, ground := Go.Ground.phase }, { on := 3, ground := Go.Ground.phase }], guard := none }) rfl (fun K hK => ?_) AllReadyH.nil
  go_simp
  refine hK.out _ _ (by exact True.intro) (fun hHeld => ?_)
  clear hK K
  try simp only [Act.put, List.setIfInBounds_toArray, List.set_cons_zero, List.set_cons_succ]
  refine wpAnyH_done (by kernel_rfl) ?_ _
  have hrow3 := Hrow2.out.set_ n (.string s)
  have hg3 := grown_set (grown_below HB2.out (some b)) n (.string s)
  have c400 := (hrow3.cell 400).trans ((lget_ne _ _ _ _ (by omega)).trans HC0.out)
  have f400 := hrow3.free 400
  have Hrow3 := Lib.hid hrow3
  have Hg3 := Lib.hid hg3
  clear hrow3 hg3 Hrow2 HB2 c2 f2 cn Hs0 Hcl
  generalize w2.setCell ⟨b, n, none⟩ (.string s) = w3 at *
  go_wp2
  go_ret2
  exact ⟨rfl, ⟨_, Hrow3.out.set_ 400 _, HC.out, Hsz2.out⟩, grown_set Hg3.out 400 _⟩
set_option maxHeartbeats 400000 in
set_option maxRecDepth 100000 in
theorem lgappend_nil (s : ByteArray) (w : World) : Calls Try.prog 8 #[.pointer none, .string s] w fun e w' => e = .returned (.tuple #[.int .i64 0, .int .i64 1]) ∧ w = w' := by
  go_enter Try.func8, Try.ntmps8
  go_wp2
  go_ret2
  exact ⟨rfl, rfl⟩

set_option maxHeartbeats 1000000 in
set_option maxRecDepth 100000 in
theorem lgat_any (p : Option Addr) (l : List ByteArray) (k : Nat) (i : Int) (w : World) (h : LP w p l k) :
    Calls Try.prog 12 #[.pointer p, .int .i64 i] w fun e w' => e = .returned (.tuple #[.string (Bm.lgAt l k i).1, .int .i64 ((Bm.lgAt l k i).2 : Int)]) ∧ ∃ q, w' = w.drewN q := by
  have Hlen := Lib.hid (lglen_any p l k w h)
  have Hbase := Lib.hid (fun q => lgbase_any p l k (w.drewN q) (h.keep rfl))
  have Hth := Lib.hid (fun q => lgthere_any p l k (w.drewN q) (h.keep rfl))
  have hs := h.small
  have Hrd := Lib.hid h.reads
  have Hroom := Lib.hid h.room
  clear h
  generalize lgC p = c at *
  by_cases hi : 0 ≤ i ∧ i < (l.length : Int)
  · obtain ⟨j, rfl⟩ : ∃ j : Nat, i = (j : Int) := ⟨i.toNat, by omega⟩
    have hj : j < l.length := by omega
    have h0 : decide ((j : Int) < 0) = false := decide_eq_false (by omega)
    have h1 : decide ((l.length : Int) ≤ (j : Int)) = false := decide_eq_false (by omega)
    have h1' : decide (l.length ≤ j) = false := decide_eq_false (by omega)
    by_cases hk : j < k
    · rw [Bm.lgAt_old l k j hj hk]
      have h2 : decide ((j : Int) < (k : Int)) = true := decide_eq_true (by omega)
      have h2' : decide (j < k) = true := decide_eq_true hk
      clear hi hj hk hs
      generalize l.length = n at *
      go_enter Try.func12, Try.ntmps12
      go_wp2_with fail
      refine Hlen.out.mono ?_
      rintro e w1 ⟨rfl, q, rfl⟩
      go_wp2_with fail
      refine (Hbase.out q).mono ?_
      rintro e w1 ⟨rfl, q2, rfl⟩
      go_wp2
      go_ret2
      exact ⟨rfl, _, rfl⟩
    · rw [Bm.lgAt_yes l k j hj (by omega)]
      have h2 : decide ((j : Int) < (k : Int)) = false := decide_eq_false (by omega)
      have h2' : decide (j < k) = false := decide_eq_false hk
      obtain ⟨g, off, rfl, hc⟩ := reads_str Hrd.out (by omega)
      have c0 := hc j hj
      have hjI : (j : Int) < (l.length : Int) := by omega
      clear hi hk hs hc Hrd
      generalize l[j] = s at *
      generalize l.length = n at *
      go_enter Try.func12, Try.ntmps12
      go_wp2_with fail
      refine Hlen.out.mono ?_
      rintro e w1 ⟨rfl, q, rfl⟩
      go_wp2_with fail
      refine (Hbase.out q).mono ?_
      rintro e w1 ⟨rfl, q2, rfl⟩
      rw [World.drewN_drewN]
      go_wp2_with fail
      refine (Hth.out (q + q2)).mono ?_
      rintro e w1 ⟨rfl, q3, rfl⟩
      rw [World.drewN_drewN]
      have c1 : (w.drewN (q + q2 + q3)).cell? ⟨g, off + j, none⟩ = some (.string s) := c0
      clear c0
      go_wp2
      go_ret2
      exact ⟨rfl, _, rfl⟩
  · rw [Bm.lgAt_none l k i hi]
    by_cases h0 : i < 0
    · have h0' : decide (i < 0) = true := decide_eq_true h0
      clear hi hs h0
      go_enter Try.func12, Try.ntmps12
      go_wp2
      go_ret2
      exact ⟨rfl, 0, rfl⟩
    · have h0' : decide (i < 0) = false := decide_eq_false h0
      have h1 : decide ((l.length : Int) ≤ i) = true := decide_eq_true (by omega)
      clear hi hs h0
      generalize l.length = n at *
      go_enter Try.func12, Try.ntmps12
      go_wp2_with fail
      refine Hlen.out.mono ?_
      rintro e w1 ⟨rfl, q, rfl⟩
      go_wp2
      go_ret2
      exact ⟨rfl, _, rfl⟩

/-- Truncate that refuses, of a Log or of nobody's. -/
theorem lgtrunc_no (p : Option Addr) (l : List ByteArray) (k : Nat) (n : Int) (w : World) (h : LP w p l k) (hn : ¬ ((k : Int) < n ∧ n ≤ (l.length : Int))) :
    Calls Try.prog 10 #[.pointer p, .int .i64 n] w fun e w' => e = .returned (.bool false) ∧ ∃ q, w' = w.drewN q := by
  have Hlen := Lib.hid (fun q => lglen_any p l k (w.drewN q) (h.keep rfl))
  have Hbase := Lib.hid (lgbase_any p l k w h)
  have hs := h.small
  clear h
  generalize l.length = m at *
  by_cases h0 : n ≤ (k : Int)
  · have h0' : decide (n ≤ (k : Int)) = true := decide_eq_true h0
    clear hn hs h0 Hlen
    go_enter Try.func10, Try.ntmps10
    go_wp2_with fail
    refine Hbase.out.mono ?_
    rintro e w1 ⟨rfl, q, rfl⟩
    go_wp2
    go_ret
    exact ⟨rfl, _, rfl⟩
  · have h0' : decide (n ≤ (k : Int)) = false := decide_eq_false h0
    have h1' : decide ((m : Int) < n) = true := decide_eq_true (by omega)
    clear hn hs h0
    go_enter Try.func10, Try.ntmps10
    go_wp2_with fail
    refine Hbase.out.mono ?_
    rintro e w1 ⟨rfl, q, rfl⟩
    go_wp2_with fail
    refine (Hlen.out q).mono ?_
    rintro e w1 ⟨rfl, q2, rfl⟩
    go_wp2
    go_ret
    exact ⟨rfl, _, rfl⟩
set_option maxHeartbeats 1000000 in
set_option maxRecDepth 100000 in
theorem lgtrunc_any (b : Nat) (l : List ByteArray) (k : Nat) (n : Int) (w : World) (h : LG w b l k) :
    Calls Try.prog 10 #[.pointer (some ⟨b, 0, none⟩), .int .i64 n] w fun e w' => e = .returned (.bool (Bm.lgTr l k n).1) ∧ LG w' b l (Bm.lgTr l k n).2 ∧ w.grownBy w' (some b) := by
  by_cases hn : (k : Int) < n ∧ n ≤ (l.length : Int)
  · obtain ⟨j, rfl⟩ : ∃ j : Nat, n = (j : Int) := ⟨n.toNat, by omega⟩
    rw [Bm.lgTr_yes l k j (by omega) (by omega)]
    have Hlen := Lib.hid (fun q => lglen_any _ l k (w.drewN q) (h.some_.keep rfl))
    have Hbase := Lib.hid (lgbase_any _ l k w h.some_)
    obtain ⟨C, hrow, hC, hsz⟩ := h
    have c401 := (hrow.cell 401).trans hC.cb
    have f401 := hrow.free 401
    have HC := Lib.hid (hC.trunc j (by omega))
    have Hrow := Lib.hid hrow
    have Hsz := Lib.hid hsz
    have h0 : decide ((j : Int) ≤ (k : Int)) = false := decide_eq_false (by omega)
    have h0' : decide (j ≤ k) = false := decide_eq_false (by omega)
    have h1 : decide ((l.length : Int) < (j : Int)) = false := decide_eq_false (by omega)
    have h1' : decide (l.length < j) = false := decide_eq_false (by omega)
    clear hrow hC hsz hn
    generalize l.length = m at *
    go_enter Try.func10, Try.ntmps10
    go_wp2_with fail
    refine Hbase.out.mono ?_
    rintro e w1 ⟨rfl, q, rfl⟩
    go_wp2_with fail
    refine (Hlen.out q).mono ?_
    rintro e w1 ⟨rfl, q2, rfl⟩
    rw [World.drewN_drewN]
    have c2 : (w.drewN (q + q2)).cell? ⟨b, 401, none⟩ = some (.int .i64 (k : Int)) := c401
    have f2 : (w.drewN (q + q2)).frozen? ⟨b, 401, none⟩ = false := f401
    clear c401 f401
    go_wp2
    go_ret
    exact ⟨rfl, ⟨_, (Hrow.out.keep rfl).set_ 401 _, HC.out, Hsz.out⟩, grown_set (grown_drewN (grown_refl w _) (q + q2)) 401 _⟩
  · rw [Bm.lgTr_no l k n hn]
    refine (lgtrunc_no _ l k n w h.some_ hn).mono ?_
    rintro e w1 ⟨he, q, rfl⟩
    exact ⟨he, h.keep rfl, grown_drewN (grown_refl w _) q⟩

set_option maxHeartbeats 1000000 in
set_option maxRecDepth 100000 in
theorem lgall_any (p : Option Addr) (l : List ByteArray) (k : Nat) (w : World) (h : LP w p l k) :
    Calls Try.prog 19 #[.pointer p] w fun e w' => ∃ u, e = .returned u ∧ OwnS w' w.heap.size u l ∧ Below w.heap.size w w' := by
  have Hth := Lib.hid (lgthere_any p l k w h)
  have h400 := h.small.1
  have Hrd := Lib.hid h.reads
  have Hroom := Lib.hid h.room
  clear h
  generalize lgC p = c at *
  go_enter Try.func19, Try.ntmps19
  go_wp2_with fail
  refine Hth.out.mono ?_
  rintro e w1 ⟨rfl, q, rfl⟩
  go_wp2_with (at_builtin; refine wpS_appends rfl _ _ rfl w.heap.size (.slice none 0 0) p l.length c [] l rfl rfl rfl (ownS_nil _ _) Hrd.out ?c1 ?c2 ?c3 ?_)
  case c1 => exact fun e => ⟨(Hroom.out.2 e).1, (Hroom.out.2 e).2.2⟩
  case c2 => simp; omega
  case c3 => exact Nat.le_refl _
  intro v' w2 hown hg
  have Hown := Lib.hid hown
  have Hb := Lib.hid (show Below w.heap.size w w2 from have hb := below_of_grown (w := w.drewN q) hg; ⟨hb.os, hb.tape, hb.output, hb.size, hb.block⟩)
  clear hown hg
  go_wp2
  go_ret
  exact ⟨_, rfl, Hown.out, Hb.out⟩
set_option maxHeartbeats 1000000 in
set_option maxRecDepth 100000 in
theorem lgold_any (p : Option Addr) (l : List ByteArray) (k : Nat) (w : World) (h : LP w p l k) :
    Calls Try.prog 20 #[.pointer p] w fun e w' => ∃ u, e = .returned u ∧ OwnS w' w.heap.size u (l.take k) ∧ Below w.heap.size w w' := by
  have Hth := Lib.hid (lgolds_any p l k w h)
  obtain ⟨h400, hk, _⟩ := h.small
  have hkl : (l.take k).length = k := by rw [List.length_take]; omega
  have Hrd := Lib.hid (sreads_take (k := k) h.reads)
  have Hroom := Lib.hid h.room
  clear h
  generalize lgC p = c at *
  generalize l.take k = m at *
  subst hkl
  go_enter Try.func20, Try.ntmps20
  go_wp2_with fail
  refine Hth.out.mono ?_
  rintro e w1 ⟨rfl, q, rfl⟩
  go_wp2_with (at_builtin; refine wpS_appends rfl _ _ rfl w.heap.size (.slice none 0 0) p m.length c [] m rfl rfl rfl (ownS_nil _ _) Hrd.out ?c1 ?c2 ?c3 ?_)
  case c1 => exact fun e => ⟨(Hroom.out.2 e).2.1, (Hroom.out.2 e).2.2⟩
  case c2 => simp; omega
  case c3 => exact Nat.le_refl _
  intro v' w2 hown hg
  have Hown := Lib.hid hown
  have Hb := Lib.hid (show Below w.heap.size w w2 from have hb := below_of_grown (w := w.drewN q) hg; ⟨hb.os, hb.tape, hb.output, hb.size, hb.block⟩)
  clear hown hg
  go_wp2
  go_ret
  exact ⟨_, rfl, Hown.out, Hb.out⟩
set_option maxHeartbeats 1000000 in
set_option maxRecDepth 100000 in
theorem lgbytes_any (p : Option Addr) (l : List ByteArray) (k : Nat) (w : World) (h : LP w p l k) :
    Calls Try.prog 16 #[.pointer p] w fun e w' => e = .returned (.int .i64 (Bm.sizeS l : Int)) ∧ ∃ q, w' = w.drewN q := by
  have Hth := Lib.hid (lgthere_any p l k w h)
  obtain ⟨h400, hk, hsz⟩ := h.small
  have Hrd := Lib.hid h.reads
  have Hsz := Lib.hid hsz
  clear h hsz hk
  generalize lgC p = c at *
  go_enter Try.func16, Try.ntmps16
  go_wp2_with fail
  refine Hth.out.mono ?_
  rintro e w1 ⟨rfl, q, rfl⟩
  clear Hth
  go_wp2
  go_loop [3, 5, 9] (fun n _ i => ∃ k : Nat, k ≤ l.length ∧ i = .int .i64 (k : Int) ∧ n = .int .i64 (Bm.sizeS (l.take k) : Int)) (fun _ _ i => l.length - (intOf i).toNat)
  case atStart => exact ⟨0, Nat.zero_le _, rfl, rfl⟩
  case round =>
    obtain ⟨k, hk, rfl, rfl⟩ := hrel
    by_cases hkl : k < l.length
    · obtain ⟨g, off, rfl, hc⟩ := reads_str Hrd.out (by omega)
      have c0 : (w.drewN q).cell? ⟨g, off + k, none⟩ = some (.string l[k]) := hc k hkl
      have hs := Hsz.out l[k] (List.getElem_mem hkl)
      have hB := Bm.sizeS_le 512 (l.take k) (fun s hs => Hsz.out s (List.mem_of_mem_take hs))
      have hB2 : (l.take k).length * 512 ≤ 204800 := by rw [List.length_take]; omega
      have hB3 := Nat.le_trans hB hB2
      have Hnx := Lib.hid (Bm.sizeS_take l k hkl)
      clear hc hB hB2
      generalize l[k] = s at *
      generalize Bm.sizeS (l.take k) = n at *
      go_wp2
      go_round
      case rel => exact ⟨k + 1, by omega, by go_num, by rw [Hnx.out]; go_num⟩
      case measure => simp [intOf]; omega
    · obtain rfl : k = l.length := by omega
      rw [List.take_length]
      go_wp2
      go_ret
      exact ⟨rfl, _, rfl⟩
end Go.Proofs.Ytnaocegcnckhmaa
