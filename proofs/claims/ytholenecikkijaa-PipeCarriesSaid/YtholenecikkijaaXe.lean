/-
  PipeCarries (layer 22): the law's function by its walk: true for any slice of strings and any slice of bytes. No condition beyond each theorem's premises.
-/
import Derived.Test.YtholenecikkijaaXk
import Derived.Test.YtholenecikkijaaAr
import Derived.Test.YtholenecikkijaaQs
import Derived.Test.YtholenecikkijaaAw
import Derived.Deep.DeepCutAuto
namespace Go.Proofs.Ytholenecikkijaa
open Go.RowKit

set_option maxHeartbeats 400000 in
set_option maxRecDepth 100000 in
theorem ppcarry_out (A B : Option Addr) (L c M d : Nat) (w : World) (hl : 20 < L ∨ 100 < M) (hL : L ≤ 9223372036854775807) (hM : M ≤ 9223372036854775807) :
    Calls Try.prog 4 #[.slice A L c, .slice B M d] w fun e w' => e = .returned (.bool true) ∧ Below w.heap.size w w' := by
  have Haw := Lib.hid (ppawake_any w)
  by_cases h1 : 20 < L
  · have hd : decide (20 < (L : Int)) = true := decide_eq_true (by omega)
    go_enter Try.func4, Try.ntmps4
    go_wp2_with fail
    refine Haw.out.mono ?_
    rintro e w1 ⟨rfl, hb1⟩
    have HB1 := Lib.hid hb1
    clear hb1
    go_wp2
    go_ret
    exact ⟨rfl, HB1.out⟩
  · have hd : decide (20 < (L : Int)) = false := decide_eq_false (by omega)
    have hd2 : decide (100 < (M : Int)) = true := decide_eq_true (by omega)
    go_enter Try.func4, Try.ntmps4
    go_wp2_with fail
    refine Haw.out.mono ?_
    rintro e w1 ⟨rfl, hb1⟩
    have HB1 := Lib.hid hb1
    clear hb1
    go_wp2
    go_ret
    exact ⟨rfl, HB1.out⟩
/-- What came of a text, and what was taken of it: up to place e it came, up to place g it was taken; and one more byte, if ok. -/
def CP (w : World) (b : Nat) (T : List Nat) (e g : Nat) (ok : Bool) : Prop :=
  (ok = true ∧ g < e ∧ PI w b (Bm.itms true ((T.take e).drop (g + 1))) (Bm.itms true (T.drop e)) 2048 (Bm.fromH Bm.H0 (T.take (g + 1))) (g + 1)) ∨
  (ok = false ∧ g = e ∧ PI w b [] (Bm.itms true (T.drop e)) 2048 (Bm.fromH Bm.H0 (T.take e)) e)
theorem CP.keep {w w' : World} {b : Nat} {T : List Nat} {e g : Nat} {ok : Bool} (h : CP w b T e g ok) (hb : w'.heap[b]? = w.heap[b]?) : CP w' b T e g ok :=
  h.imp (fun ⟨h1, h2, h3⟩ => ⟨h1, h2, h3.keep hb⟩) (fun ⟨h1, h2, h3⟩ => ⟨h1, h2, h3.keep hb⟩)
theorem CP.lt {w : World} {b : Nat} {T : List Nat} {e g : Nat} {ok : Bool} (h : CP w b T e g ok) : b < w.heap.size := by
  rcases h with ⟨_, _, h3⟩ | ⟨_, _, h3⟩
  · exact h3.lt
  · exact h3.lt
theorem take_next (w : World) (b : Nat) (T : List Nat) (e g : Nat) (hge : g ≤ e) (heT : e ≤ T.length) (hT : T.length ≤ 100000)
    (hP : PI w b (Bm.itms true ((T.take e).drop g)) (Bm.itms true (T.drop e)) 2048 (Bm.fromH Bm.H0 (T.take g)) g) :
    ∃ (x v : Nat) (ok : Bool), (ok = true → ∃ h : g < T.length, x = T[g] ∧ v = Bm.sumOf (T.take (g + 1))) ∧
      Calls Try.prog 15 #[.pointer (some ⟨b, 0, none⟩)] w fun r w' => r = .returned (.tuple #[ppB x v ok, .bool ok]) ∧ CP w' b T e g ok ∧ w.grownBy w' (some b) := by
  by_cases h : g < e
  · have hg : g < T.length := by omega
    have hd : (T.take e).drop g = T[g] :: (T.take e).drop (g + 1) := by
      rw [List.drop_eq_getElem_cons (by rw [List.length_take]; omega), List.getElem_take]
    rw [hd] at hP
    have hP2 : PI w b ((T[g], true) :: Bm.itms true ((T.take e).drop (g + 1))) (Bm.itms true (T.drop e)) 2048 (Bm.fromH Bm.H0 (T.take g)) g := hP
    have h5 := Bm.fromH_take Bm.H0 T g hg
    have hv : Bm.sumH (Bm.stepH (Bm.fromH Bm.H0 (T.take g)) T[g]) (g + 1) = Bm.sumOf (T.take (g + 1)) := by
      unfold Bm.sumOf
      rw [h5, List.length_take, show min (g + 1) T.length = g + 1 by omega]
    refine ⟨T[g], Bm.sumOf (T.take (g + 1)), true, fun _ => ⟨hg, rfl, rfl⟩, ?_⟩
    rw [← hv]
    refine (pptake_sent b T[g] _ _ 2048 _ g w (by omega) hP2).mono fun r w' ⟨h1, h2, h3⟩ => ⟨h1, Or.inl ⟨rfl, h, ?_⟩, h3⟩
    rw [h5]
    exact h2
  · obtain rfl : g = e := by omega
    have hd : (T.take g).drop g = [] := List.drop_eq_nil_of_le (by rw [List.length_take]; omega)
    rw [hd] at hP
    exact ⟨0, 0, false, fun h => (by cases h), (pptake_none b _ 2048 _ g w hP).mono fun r w' ⟨h1, h2⟩ => ⟨h1, Or.inr ⟨rfl, rfl, hP.below h2⟩, grown_below h2 _⟩⟩
/-- Behind Deliver. -/
theorem del_next {w : World} {b : Nat} {T : List Nat} {g r : Nat} {h n : Nat} (hP : PI w b ([] ++ (Bm.itms true (T.drop g)).take r) ((Bm.itms true (T.drop g)).drop r) 2048 h n) :
    PI w b (Bm.itms true ((T.take (g + r)).drop g)) (Bm.itms true (T.drop (g + r))) 2048 h n := by
  have e1 : [] ++ (Bm.itms true (T.drop g)).take r = Bm.itms true ((T.take (g + r)).drop g) := by
    rw [List.nil_append, List.drop_take, Nat.add_sub_cancel_left]
    unfold Bm.itms
    rw [List.map_take]
  have e2 : (Bm.itms true (T.drop g)).drop r = Bm.itms true (T.drop (g + r)) := by
    rw [← Bm.itms_drop, List.drop_drop]
  rw [e1, e2] at hP
  exact hP
/-- 'append(s, x...)': x came in, nil or not. -/
theorem wpList_append_in {P : Program} {w : World} {ops : Array Oper} {rest : List Oper} {o : Oper} {a : Act} {Q : Exit → Act → World → Prop} (hgd : o.guard = none) (s x : Operand) (t : TypeId)
    (ho : o.op = .call { callee := .builtin .append, args := #[s, x], argTypes := #[t, t] })
    (base : Nat) (e : TypeId) (i : TypeInfo) (z : Value) (bytes : Nat) (ht : P.underlying t = some (.slice e)) (hi : P.info? e = some i) (hz : i.zero = some z)
    (hsize : i.size = 1) (hby : i.bytes = bytes) (hzs : z.cells.size = 1)
    (v : Value) (n : Nat) (xs : List Value) (hs : a.eval s = v) (hown : w.ownsRow base e 1 v n xs)
    (B : Option Addr) (m d : Nat) (news : List Value) (hx : a.eval x = .slice B m d) (hB : B = none → m = 0 ∧ d = 0) (hl : news.length = m) (hnews : ∀ ad, B = some ad → ∀ j u, news[j]? = some u → w.cell? (ad.add j) = some u) (h1 : ∀ u ∈ news, u.oneCell' = true)
    (h63 : n + m ≤ maxLen) (hbytes : (n + m) * bytes ≤ 140737488355328) (hbase : base ≤ w.heap.size)
    (h : ∀ v' w', w'.ownsRow base e 1 v' (n + m) (xs ++ news) → w.grownBy w' v.ownBlock → wpList P ops Q rest (a.put o.dst v') w') : wpList P ops Q (o :: rest) a w := by
  cases B with
  | none =>
    obtain ⟨rfl, rfl⟩ := hB rfl
    obtain rfl : news = [] := List.eq_nil_of_length_eq_zero hl
    refine wpList_append_own_none hgd s x t ho base e i 1 ht hi v n xs hs hown hx (h v w ?_ (grown_refl _ _))
    rw [List.append_nil]
    exact hown
  | some ad =>
    exact wpList_append_own (P := P) w hgd s x t ho base e i z 1 bytes ht hi hz hsize hby hzs (by decide) v n xs hs hown ad m d news hx (by rw [Nat.mul_one]; exact hl) (hnews ad rfl) h1 h63 hbytes hbase (fun v' w' a b _ => h v' w' a b)
theorem argb_cells {w W : World} {B : Option Addr} {n d : Nat} {bs : List Nat} (h : ArgB w B n d bs) (hb : Below w.heap.size w W) : ∀ ad, B = some ad → ∀ j u, (u8s bs)[j]? = some u → W.cell? (ad.add j) = some u := by
  obtain ⟨rfl, _, hr, hlt, _⟩ := h
  intro ad e j u hj
  have hjl : j < bs.length := by
    rcases Nat.lt_or_ge j (u8s bs).length with h1 | h1
    · rwa [u8s_length] at h1
    · rw [List.getElem?_eq_none h1] at hj; cases hj
  obtain ⟨g, off, e2, hc⟩ := hr (fun h0 => by have := congrArg List.length h0; rw [u8s_length, List.length_nil] at this; omega)
  rw [e] at e2
  injection e2 with e2
  subst e2
  have hadd : (⟨g, off, none⟩ : Addr).add j = ⟨g, off + j, none⟩ := by unfold Addr.add; split <;> simp_all
  rw [hadd, hb.cell (p := ⟨g, off + j, none⟩) (show g < w.heap.size from hlt ⟨g, off, none⟩ e (by omega)), hc j (by rw [u8s_length]; exact hjl), hj]
theorem argb_nil {w : World} {B : Option Addr} {n d : Nat} {bs : List Nat} (h : ArgB w B n d bs) (hB : B = none → d = 0) : B = none → n = 0 ∧ d = 0 := fun e => by
  obtain ⟨rfl, _, hr, _⟩ := h
  refine ⟨?_, hB e⟩
  rcases Nat.eq_zero_or_pos bs.length with h0 | h0
  · exact h0
  · obtain ⟨g, off, e2, _⟩ := hr (fun h1 => by have := congrArg List.length h1; rw [u8s_length, List.length_nil] at this; omega)
    rw [e] at e2
    cases e2
theorem u8s_one (l : List Nat) : ∀ u ∈ u8s l, u.oneCell' = true := fun u hu => by
  obtain ⟨x, _, rfl⟩ := List.mem_map.1 hu
  rfl
/-- How long a string is. -/
def gotN : Value → Nat
  | .string s => s.size
  | _ => 0
theorem info_u8q : (Try.prog.info? 5).map (fun i => (i.zero, i.size, i.bytes)) = some (some (.int .u8 0), 1, 1) := by kernel_rfl
set_option maxHeartbeats 2000000 in
set_option maxRecDepth 100000 in
theorem ppcarry_in (A B : Option Addr) (c d : Nat) (xs : List ByteArray) (bs : List Nat) (w : World) (hl : xs.length ≤ 20) (hl2 : bs.length ≤ 100) (hx : ArgStr w A xs.length c xs) (hy : ArgB w B bs.length d bs) (hB : B = none → d = 0) :
    Calls Try.prog 4 #[.slice A xs.length c, .slice B bs.length d] w fun e w' => e = .returned (.bool true) ∧ Below w.heap.size w w' := by
  have Haw := Lib.hid (ppawake_any w)
  have hd : decide (20 < (xs.length : Int)) = false := decide_eq_false (by omega)
  have hd2 : decide (100 < (bs.length : Int)) = false := decide_eq_false (by omega)
  have Hrx := Lib.hid hx.2.2.1
  have Hby := Lib.hid hy
  have HBn := Lib.hid hB
  clear hx hy hB
  go_enter Try.func4, Try.ntmps4
  go_wp2_with fail
  refine Haw.out.mono ?_
  rintro e w1 ⟨rfl, hb1⟩
  have HB1 := Lib.hid hb1
  have Hnew := Lib.hid (ppnew_any 2048 w1)
  rw [show Bm.mostN 2048 = 2048 by decide] at Hnew
  clear hb1 Haw
  go_wp2_with fail
  refine Hnew.out.mono ?_
  rintro e w2 ⟨b, rfl, hP2, hb, hb2⟩
  have HB2 := Lib.hid (HB1.out.trans (hb2.mono HB1.out.size))
  have Hb := Lib.hid (Nat.le_trans HB1.out.size hb)
  have HP2 := Lib.hid hP2
  clear hP2 hb2 hb Hnew HB1 hd hd2
  go_wp2
  go_loopw [6, 8, 27] (fun al _ i wr => ∃ (j : Nat) (T : List Nat), j ≤ xs.length ∧ i = .int .i64 (j : Int) ∧ al = .string (strOf T) ∧ Hid (T.length ≤ 60 * j ∧ ∀ x ∈ T, x < 256) ∧ Hid (PI wr b [] (Bm.itms true T) 2048 Bm.H0 0) ∧ Hid (Below w.heap.size w wr)) (fun _ _ i _ => xs.length - (intOf i).toNat)
  case atStart => exact ⟨0, [], Nat.zero_le _, rfl, rfl, Lib.hid ⟨Nat.le_refl _, fun x hx => by cases hx⟩, HP2, HB2⟩
  case round =>
    obtain ⟨j, T, hj, rfl, rfl, hT, hP, hbel⟩ := hrel
    have HT := Lib.hid hT.out
    have HP := Lib.hid hP.out
    have HBr := Lib.hid hbel.out
    clear hT hP hbel HP2 HB2
    by_cases hjl : j < xs.length
    · have hjI : (j : Int) < (xs.length : Int) := by omega
      obtain ⟨g, off, rfl, hg, hc⟩ : ∃ g off, A = some ⟨g, off, none⟩ ∧ g < w.heap.size ∧ ∀ j (h : j < xs.length), w.cell? ⟨g, off + j, none⟩ = some (.string xs[j]) := by
        obtain ⟨g, off, e1, e2⟩ := Hrx.out (by intro e; have := congrArg List.length e; rw [strC_length, List.length_nil] at this; omega)
        have h0 : ∀ j (h : j < xs.length), w.cell? ⟨g, off + j, none⟩ = some (.string xs[j]) := fun j h => by rw [e2 j (by rw [strC_length]; exact h), strC_get? xs j h]
        exact ⟨g, off, e1, World.block_lt_of_cell? w _ (h0 j hjl), h0⟩
      have q0 := (HBr.out.cell (p := ⟨g, off + j, none⟩) hg).trans (hc j hjl)
      clear hc hg Hrx
      generalize xs[j] = tx at *
      by_cases ht : 60 < tx.size
      · have hdt : decide (60 < (tx.size : Int)) = true := decide_eq_true (by omega)
        go_wp2
        go_ret
        exact ⟨rfl, HBr.out⟩
      have hdt : decide (60 < (tx.size : Int)) = false := decide_eq_false (by omega)
      obtain ⟨tl, rfl, hlt⟩ := of_string tx
      have htl := strOf_size tl
      rw [htl] at ht hdt
      have Hse := Lib.hid (ppsend_yes b [] (Bm.itms true T) 2048 Bm.H0 0 tl wr (by rw [Bm.itms_length, List.length_nil]; have := HT.out.1; omega) hlt HP.out)
      rw [← Bm.itms_append] at Hse
      have hadd := fun W => str_add T tl (by have := HT.out.1; omega) W
      have HT2 := Lib.hid (show (T ++ tl).length ≤ 60 * (j + 1) ∧ ∀ x ∈ T ++ tl, x < 256 from ⟨by rw [List.length_append]; have := HT.out.1; omega, append_lt HT.out.2 hlt⟩)
      clear hlt HT HP ht
      go_wp2_with fail
      refine Hse.out.mono ?_
      rintro e w3 ⟨rfl, hP3, hg3⟩
      have HP3 := Lib.hid hP3
      have HB3 := Lib.hid (HBr.out.trans (below_grown hg3 Hb.out HBr.out.size))
      clear hP3 hg3 HBr Hse q0
      go_wp2
      go_roundw
      case rel => exact ⟨j + 1, T ++ tl, by omega, by go_num, rfl, HT2, HP3, HB3⟩
      case measure => simp [intOf]; omega
    · obtain rfl : j = xs.length := by omega
      have HT2 : Hid (T.length ≤ 1200 ∧ ∀ x ∈ T, x < 256) := Lib.hid ⟨by have := HT.out.1; omega, HT.out.2⟩
      clear HT Hrx
      obtain ⟨i0, hi, hz0, hz1, hz2⟩ := info_parts info_u8q
      have hbl : bs.length ≤ 100 := hl2
      have Hown0 := Lib.hid (World.ownsRow_made (e := 5) (size := 1) wr #[] 0 (Nat.le_refl wr.heap.size) (Nat.zero_le _) rfl)
      go_upto_region 15 with fail
      have Hba : Hid (Below wr.heap.size wr (wr.alloc (.cells #[] 5))) := Lib.hid ((Below.refl _ _).alloc (Nat.le_refl _) _)
      have HBa := Lib.hid (HBr.out.trans (Hba.out.mono HBr.out.size))
      go_wp2_with (at_builtin; refine wpList_append_in rfl _ _ 45 rfl wr.heap.size 5 i0 (.int .u8 0) 1 Try.underlying45 hi hz0 hz1 hz2 rfl _ _ _ rfl Hown0.out B bs.length d (u8s bs) rfl ?d1 (u8s_length bs) (argb_cells Hby.out HBa.out) (u8s_one bs) ?d3 ?d4 ?d5 ?_)
      case d1 => exact argb_nil Hby.out HBn.out
      case d3 => unfold maxLen; omega
      case d4 => omega
      case d5 => exact Hba.out.size
      intro v5 w5 hown5 hg5
      have HQ5 := Lib.hid (Hba.out.grown hg5 Hba.out.size (fun q hq => (Hown0.out.lt q hq).1))
      have Hown5 := Lib.hid hown5
      have H255 := Lib.hid (Row.new w5 5 (u8s [255, 255, 255, 255, 255]))
      have HQ6 : Hid (Below wr.heap.size wr (w5.alloc (.cells (u8s [255, 255, 255, 255, 255]).toArray 5))) := Lib.hid (HQ5.out.alloc HQ5.out.size _)
      have Hown6 := Lib.hid (own_below Hown5.out ((Below.refl w5.heap.size w5).alloc (Nat.le_refl _) (.cells (u8s [255, 255, 255, 255, 255]).toArray 5)))
      clear hown5 hg5 Hba HBa Hown0
      rw [show (u8s [255, 255, 255, 255, 255]).toArray = #[.int .u8 255, .int .u8 255, .int .u8 255, .int .u8 255, .int .u8 255] from rfl] at HQ6 Hown6
      have H255' := Lib.hid (show Row (w5.alloc (.cells #[.int .u8 255, .int .u8 255, .int .u8 255, .int .u8 255, .int .u8 255] 5)) w5.heap.size 5 (u8s [255, 255, 255, 255, 255]) from H255.out)
      clear H255 HQ5 Hown5
      go_wp2_with (at_builtin; refine wpList_append_in rfl _ _ 45 rfl wr.heap.size 5 i0 (.int .u8 0) 1 Try.underlying45 hi hz0 hz1 hz2 rfl _ _ _ rfl Hown6.out (some ⟨w5.heap.size, 0, none⟩) 5 5 (u8s [255, 255, 255, 255, 255]) rfl ?d1 rfl ?d2 (u8s_one _) ?d3 ?d4 ?d5 ?_)
      case d1 => exact fun e => by cases e
      case d2 =>
        intro ad e j u hj
        injection e with e
        subst e
        rw [show ((⟨w5.heap.size, 0, none⟩ : Addr).add j) = ⟨w5.heap.size, j, none⟩ by unfold Addr.add; split <;> simp_all, H255'.out.cell j]
        exact hj
      case d3 => unfold maxLen; omega
      case d4 => omega
      case d5 => exact HQ6.out.size
      intro v7 w7 hown7 hg7
      obtain ⟨g7, c7, rfl, hgl, hglt⟩ := own_form hown7 (by omega)
      have Hrd7 := Lib.hid (own_place hown7)
      have HQ7 := Lib.hid (HQ6.out.grown hg7 HQ6.out.size (fun q hq => (Hown6.out.lt q hq).1))
      have HB7 := Lib.hid (HBr.out.trans (HQ7.out.mono HBr.out.size))
      have HP7 := Lib.hid (HP.out.below HQ7.out)
      have Hgb := Lib.hid (show g7 ≠ b from by have := HP.out.lt; omega)
      have Hg7 := Lib.hid hglt
      have Hblt := Lib.hid Hby.out.2.1
      clear hown7 hg7 hgl hglt Hown6 HQ6 H255' HBr HP HQ7 Hby HBn hz0 hz1 hz2 hi
      obtain ⟨ks, hks⟩ : ∃ ks, ks = bs ++ [255, 255, 255, 255, 255] := ⟨_, rfl⟩
      have hksl : bs.length + 5 = ks.length := by rw [hks, List.length_append]; rfl
      have Hk256 := Lib.hid (show ∀ j (h : j < ks.length), ks[j] < 256 from fun j h => by
        subst hks
        rcases List.mem_append.1 (List.getElem_mem h) with h1 | h1
        · exact Hblt.out _ h1
        · simp only [List.mem_cons, List.not_mem_nil, or_false, or_self] at h1
          rw [h1]; decide)
      have Hk255 := Lib.hid (show ∀ j (h : j < ks.length), bs.length ≤ j → ks[j] = 255 from fun j h hj => by
        subst hks
        rw [List.getElem_append_right hj]
        have hm := List.getElem_mem (l := [255, 255, 255, 255, 255]) (n := j - bs.length) (by rw [List.length_append] at h; simp only [List.length_cons, List.length_nil] at h ⊢; omega)
        simp only [List.mem_cons, List.not_mem_nil, or_false, or_self] at hm
        exact hm)
      have Hkc := Lib.hid (show ∀ j (h : j < ks.length), w7.cell? ⟨g7, j, none⟩ = some (.int .u8 (ks[j] : Int)) from fun j h => by
        have hr := Hrd7.out.2.2.2.2
        rw [show u8s bs ++ u8s [255, 255, 255, 255, 255] = u8s ks by rw [hks]; unfold u8s; rw [List.map_append]] at hr
        obtain ⟨g9, o9, e9, hc9⟩ := hr (by intro e; have := congrArg List.length e; rw [u8s_length, List.length_nil] at this; omega)
        injection e9 with e9
        injection e9 with e9 e10
        subst e9 e10
        have h5 := hc9 j (by rw [u8s_length]; exact h)
        rw [Nat.zero_add, u8s_get? ks j h] at h5
        exact h5)
      have Hkl := Lib.hid hksl
      clear hks Hrd7 Hblt
      rw [hksl]
      clear hksl
      have hkb : ks.length ≤ 105 := by have := Hkl.out; omega
      go_wp2
      go_loopw [9, 11, 12, 13, 53] (fun got _ _ _ i wz => ∃ (j g : Nat), j ≤ ks.length ∧ i = .int .i64 (j : Int) ∧ got = .string (strOf (T.take g)) ∧ Hid (g ≤ T.length ∧ min T.length (255 * (j - bs.length)) ≤ g) ∧ Hid (PI wz b [] (Bm.itms true (T.drop g)) 2048 (Bm.fromH Bm.H0 (T.take g)) g) ∧ Hid (w7.grownBy wz (some b))) (fun _ _ _ _ i _ => ks.length - (intOf i).toNat)
      case atStart => exact ⟨0, 0, Nat.zero_le _, rfl, by rw [List.take_zero]; rfl, Lib.hid ⟨Nat.zero_le _, by rw [Nat.zero_sub]; omega⟩, Lib.hid (by rw [List.take_zero, List.drop_zero]; exact HP7.out), Lib.hid (grown_refl _ _)⟩
      case round =>
        obtain ⟨j, g, hj2, rfl, rfl, hgT, hPz, hgz⟩ := hrel
        have HgT := Lib.hid hgT.out
        have HPz := Lib.hid hPz.out
        have HGz := Lib.hid hgz.out
        clear hgT hPz hgz HP7
        by_cases hjk : j < ks.length
        · have hjI : (j : Int) < (ks.length : Int) := by omega
          have hk2 := Hk256.out j hjk
          have Hk3 := Lib.hid (Hk255.out j hjk)
          have q0 := (World.cell?_of_block (a := ⟨g7, j, none⟩) (HGz.out.block g7 Hg7.out (fun e => by injection e with e; exact Hgb.out e))).trans (Hkc.out j hjk)
          clear Hk255 Hk256 Hkc
          generalize ks[j] = kk at *
          have hwk : IntKind.i64.wrap (kk : Int) = (kk : Int) := IntWalk.i64_in _ (by omega)
          obtain ⟨r, hr⟩ : ∃ r, Bm.comeN (kk : Int) (Bm.itms true (T.drop g)).length = r := ⟨_, rfl⟩
          have hr2 := Bm.come_le (kk : Int) (Bm.itms true (T.drop g)).length
          rw [hr, Bm.itms_length, List.length_drop] at hr2
          have Hr2 := Lib.hid (show r = min kk (T.length - g) by omega)
          have Hde := Lib.hid (ppdel_any b [] (Bm.itms true (T.drop g)) 2048 _ g (kk : Int) r _ hr HPz.out)
          clear hr hr2 hk2
          go_wp2_with fail
          refine Hde.out.mono ?_
          rintro e wD ⟨rfl, hPD, hgD⟩
          have hrT : g + r ≤ T.length := by have := Hr2.out; have := HgT.out.1; omega
          have hPE := del_next hPD
          have HGD := Lib.hid (HGz.out.trans hgD)
          obtain ⟨x, v, ok, hxv, htk⟩ := take_next wD b T (g + r) g (Nat.le_add_right _ _) hrT (by have := HT2.out.1; omega) hPE
          have Hxv := Lib.hid hxv
          have Htk := Lib.hid htk
          have HeT := Lib.hid hrT
          have Hge := Lib.hid (show g ≤ g + r from Nat.le_add_right _ _)
          have Hprog : Hid (g + r ≤ T.length ∧ min T.length (255 * (j + 1 - bs.length)) ≤ g + r) := Lib.hid ⟨hrT, by
            have h1 := Hr2.out
            have h2 := HgT.out.2
            have h3 := HgT.out.1
            by_cases h4 : bs.length ≤ j
            · have := Hk3.out h4; omega
            · omega⟩
          clear hPD hgD hPE hxv htk hrT HGz HPz Hde Hr2 Hk3 HgT q0 hwk
          generalize g + r = e5 at *
          go_wp2_with fail
          refine Htk.out.mono ?_
          rintro e wT ⟨rfl, hC, hgT⟩
          unfold ppB
          have HC := Lib.hid hC
          have HGT := Lib.hid (HGD.out.trans hgT)
          clear hC hgT HGD Htk
          go_wp2
          have HGA := Lib.hid (grown_alloc HGT.out (.cells #[.int .u8 (x : Int), .int .u64 (v : Int), .bool ok] 34))
          have HRA := Lib.hid (Row.new wT 34 [.int .u8 (x : Int), .int .u64 (v : Int), .bool ok])
          have HCA := Lib.hid (HC.out.keep (Below.heap_alloc wT (.cells #[.int .u8 (x : Int), .int .u64 (v : Int), .bool ok] 34) b HC.out.lt))
          have HIA := Lib.hid (show w7.heap.size ≤ wT.heap.size from HGT.out.size)
          clear HC HGT
          generalize wT.alloc (.cells #[.int .u8 (x : Int), .int .u64 (v : Int), .bool ok] 34) = wA at *
          generalize wT.heap.size = ib0 at *
          go_loopw [9, 12, 13] (fun got bp okv wy => ∃ (g2 ib x2 v2 : Nat) (ok2 : Bool), got = .string (strOf (T.take g2)) ∧ bp = .pointer (some ⟨ib, 0, none⟩) ∧ okv = .bool ok2 ∧ Hid (g2 ≤ e5) ∧ Hid (ok2 = true → ∃ h : g2 < T.length, x2 = T[g2] ∧ v2 = Bm.sumOf (T.take (g2 + 1))) ∧
            Hid (Row wy ib 34 [.int .u8 (x2 : Int), .int .u64 (v2 : Int), .bool ok2]) ∧ Hid (CP wy b T e5 g2 ok2) ∧ Hid (w7.grownBy wy (some b)) ∧ Hid (w7.heap.size ≤ ib)) (fun got _ _ _ => e5 - gotN got)
          case atStart => exact ⟨g, ib0, x, v, ok, rfl, rfl, rfl, Hge, Hxv, HRA, HCA, HGA, HIA⟩
          case round =>
            obtain ⟨g2, ib, x2, v2, ok2, rfl, rfl, rfl, hge2, hxv2, hR2, hC2, hG2, hI2⟩ := hrel
            have Hge2 := Lib.hid hge2.out
            have Hxv2 := Lib.hid hxv2.out
            have HR2 := Lib.hid hR2.out
            have HC2 := Lib.hid hC2.out
            have HG2 := Lib.hid hG2.out
            have HI2 := Lib.hid hI2.out
            clear hge2 hxv2 hR2 hC2 hG2 hI2 HGA HRA HCA HIA Hxv Hge
            have i0 := HR2.out.cell 0
            have i1 := HR2.out.cell 1
            have i2 := HR2.out.cell 2
            simp only [List.getElem?_cons_zero, List.getElem?_cons_succ] at i0 i1 i2
            cases ok2 with
            | true =>
              obtain ⟨hgl, rfl, hv2⟩ := Hxv2.out rfl
              have hC3 : g2 < e5 ∧ PI wr b (Bm.itms true ((T.take e5).drop (g2 + 1))) (Bm.itms true (T.drop e5)) 2048 (Bm.fromH Bm.H0 (T.take (g2 + 1))) (g2 + 1) := by
                rcases HC2.out with ⟨_, h1, h2⟩ | ⟨h0, _⟩
                · exact ⟨h1, h2⟩
                · cases h0
              have Hg2e := Lib.hid hC3.1
              have HPI := Lib.hid hC3.2
              have hx256 : T[g2] < 256 := HT2.out.2 _ (List.getElem_mem hgl)
              have Htk1 := Lib.hid (show strOf (T.take (g2 + 1)) = strOf (T.take g2 ++ [T[g2]]) by rw [List.take_succ_eq_append_getElem hgl])
              have hadd := fun W => str_add (T.take g2) [T[g2]] (by have := HT2.out.1; rw [List.length_take, List.length_singleton]; omega) W
              rw [← Htk1.out] at hadd
              have hconv := conv_one (wr.alloc (.cells #[.int .u8 (T[g2] : Int)] 5)) wr.heap.size T[g2] hx256 ((Row.new wr 5 [.int .u8 (T[g2] : Int)]).cell 0) 1
              have Hof := Lib.hid (fun W => gof_any (T.take (g2 + 1)) W (by have := HT2.out.1; rw [List.length_take]; omega) (fun y hy => HT2.out.2 y (List.mem_of_mem_take hy)))
              rw [← hv2] at Hof
              clear hC3 HC2 Hxv2 hv2
              go_upto_region 23 with fail
              have hda : Below wr.heap.size wr (wr.alloc (.cells #[.int .u8 (T[g2] : Int)] 5)) := (Below.refl _ _).alloc (Nat.le_refl _) _
              have HR3 := Lib.hid (HR2.out.below hda)
              have HP3 := Lib.hid (HPI.out.below hda)
              have HG3 := Lib.hid (grown_alloc HG2.out (.cells #[.int .u8 (T[g2] : Int)] 5))
              clear hda hconv hadd i0 i1 i2 HR2 HPI HG2
              generalize wr.alloc (.cells #[.int .u8 (T[g2] : Int)] 5) = w8 at *
              have i0 := HR3.out.cell 0
              have i1 := HR3.out.cell 1
              have i2 := HR3.out.cell 2
              simp only [List.getElem?_cons_zero, List.getElem?_cons_succ] at i0 i1 i2
              have hvv : ((v2 : Int) == (v2 : Int)) = true := beq_self_eq_true _
              go_quiet ((go_at_call 23; exact quiet_leftK (Hof.out _)))
              have HR4 := Lib.hid (show Row (w8.drewN nq) ib 34 [.int .u8 (T[g2] : Int), .int .u64 (v2 : Int), .bool true] from HR3.out)
              have HP4 := Lib.hid (HP3.out.keep (w' := w8.drewN nq) rfl)
              have HG4 := Lib.hid (grown_drewN HG3.out nq)
              clear i0 i1 i2 HR3 HP3 HG3 Hof
              generalize w8.drewN nq = w9 at *
              have i0 := HR4.out.cell 0
              have i1 := HR4.out.cell 1
              have i2 := HR4.out.cell 2
              simp only [List.getElem?_cons_zero, List.getElem?_cons_succ] at i0 i1 i2
              go_upto_region 21 with fail
              have hda : Below w9.heap.size w9 (w9.alloc (.cells #[.int .u8 (T[g2] : Int), .int .u64 (v2 : Int), .bool true] 34)) := (Below.refl _ _).alloc (Nat.le_refl _) _
              have HP5 := Lib.hid (HP4.out.below hda)
              have HG5 := Lib.hid (grown_alloc HG4.out (.cells #[.int .u8 (T[g2] : Int), .int .u64 (v2 : Int), .bool true] 34))
              have HR5 := Lib.hid (Row.new w9 34 [.int .u8 (T[g2] : Int), .int .u64 (v2 : Int), .bool true])
              have HI5 := Lib.hid (show w7.heap.size ≤ w9.heap.size from HG4.out.size)
              have HbI := Lib.hid (show b ≠ w9.heap.size from by have := HP4.out.lt; omega)
              clear hda i0 i1 i2 HR4 HP4 HG4 HI2
              generalize w9.alloc (.cells #[.int .u8 (T[g2] : Int), .int .u64 (v2 : Int), .bool true] 34) = wB at *
              generalize w9.heap.size = ib2 at *
              obtain ⟨x3, v3, ok3, hxv3, htk3⟩ := take_next wB b T e5 (g2 + 1) (by have := Hg2e.out; omega) HeT.out (by have := HT2.out.1; omega) HP5.out
              have Hxv3 := Lib.hid hxv3
              have Htk3 := Lib.hid htk3
              clear hxv3 htk3
              go_wp2_with fail
              refine Htk3.out.mono ?_
              rintro e wC ⟨rfl, hC, hgC⟩
              unfold ppB
              have HR6 := Lib.hid (HR5.out.keep (hgC.block ib2 HR5.out.lt (fun e => by injection e with e; exact HbI.out e.symm)))
              have HC6 := Lib.hid hC
              have HG6 := Lib.hid (HG5.out.trans hgC)
              have j0 := HR6.out.cell 0
              have j1 := HR6.out.cell 1
              have j2 := HR6.out.cell 2
              have k0 := HR6.out.free 0
              have k1 := HR6.out.free 1
              have k2 := HR6.out.free 2
              simp only [List.getElem?_cons_zero, List.getElem?_cons_succ] at j0 j1 j2
              have HR7 := Lib.hid (ppB_row (x := x3) (h := v3) (s := ok3) HR6.out rfl)
              have HC7 := Lib.hid (((HC6.out.keep (Below.heap_setCell wC ⟨ib2, 0, none⟩ (.int .u8 (x3 : Int)) b HbI.out)).keep (Below.heap_setCell _ ⟨ib2, 1, none⟩ (.int .u64 (v3 : Int)) b HbI.out)).keep (Below.heap_setCell _ ⟨ib2, 2, none⟩ (.bool ok3) b HbI.out))
              have HG7 := Lib.hid (grown_setN (grown_setN (grown_setN HG6.out HI5.out 0 (.int .u8 (x3 : Int))) HI5.out 1 (.int .u64 (v3 : Int))) HI5.out 2 (.bool ok3))
              clear hC hgC HR6 HC6 HG6 HR5 HP5 HG5 Htk3
              go_wp2
              go_roundw
              case rel => exact ⟨g2 + 1, ib2, x3, v3, ok3, rfl, rfl, rfl, Lib.hid (by have := Hg2e.out; omega), Hxv3, HR7, HC7, HG7, HI5⟩
              case measure =>
                have h1 := Hg2e.out
                have h2 := HeT.out
                show e5 - gotN (.string (strOf (T.take (g2 + 1)))) < e5 - gotN (.string (strOf (T.take g2)))
                unfold gotN
                simp only [strOf_size, List.length_take]
                omega
            | false =>
              have hC3 : g2 = e5 ∧ PI wr b [] (Bm.itms true (T.drop e5)) 2048 (Bm.fromH Bm.H0 (T.take e5)) e5 := by
                rcases HC2.out with ⟨h0, _⟩ | ⟨_, h1, h2⟩
                · cases h0
                · exact ⟨h1, h2⟩
              obtain ⟨rfl, hP9⟩ := hC3
              have HP9 := Lib.hid hP9
              clear hP9 HC2 Hxv2 i0 i1 i2 HR2
              go_wp2
              go_roundw
              case rel => exact ⟨j + 1, g2, by omega, by go_num, rfl, Hprog, HP9, HG2⟩
              case measure => simp [intOf]; omega
        · obtain rfl : j = ks.length := by omega
          have hgl : g = T.length := by have h1 := HgT.out; have h2 := Hkl.out; have h3 := HT2.out.1; omega
          rw [hgl, List.take_length, List.drop_length] at HPz
          have hcP : wr.cell? ⟨b, 4097, none⟩ = some (.int .i64 ((0 : Nat) : Int)) ∧ wr.cell? ⟨b, 4098, none⟩ = some (.int .i64 ((0 : Nat) : Int)) ∧ wr.cell? ⟨b, 4099, none⟩ = some (.int .i64 ((2048 : Nat) : Int)) := by
            obtain ⟨f, G, hpw, _⟩ := HPz.out
            exact ⟨hpw.cells.2.1, hpw.cells.2.2.1, hpw.cells.2.2.2.1⟩
          have Hroom := Lib.hid (pproom_at b 0 0 2048 wr (Nat.le_refl _) (Nat.zero_le _) hcP.1 hcP.2.1 hcP.2.2)
          have HBz := Lib.hid (HB7.out.trans (below_grown HGz.out Hb.out HB7.out.size))
          rw [hgl, List.take_length]
          have hss : ((strOf T).toList == (strOf T).toList) = true := beq_self_eq_true _
          clear hcP HPz HGz HB7 hgl HgT
          generalize strOf T = ss at *
          go_wp2_with fail
          refine Hroom.out.mono ?_
          rintro e wR ⟨rfl, q, rfl⟩
          go_wp2
          go_ret
          exact ⟨rfl, ⟨HBz.out.os, HBz.out.tape, HBz.out.output, HBz.out.size, HBz.out.block⟩⟩
end Go.Proofs.Ytholenecikkijaa