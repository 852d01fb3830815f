/-
  Send, Inject, Deliver, Clear of layer 22 (pipe), by their walks; on nobody's Pipe. Conditions: as each theorem's premises say.
-/
import Derived.Test.YtckmdeiahpijcaaXp
namespace Go.Proofs.Ytckmdeiahpijcaa
open Go.RowKit

set_option maxHeartbeats 400000 in
set_option maxRecDepth 100000 in
theorem ppsend_no (b : Nat) (kc kf : List Bm.Itm) (m h n : Nat) (s : ByteArray) (w : World) (hs : ¬ s.size ≤ m - kc.length - kf.length) (k : PI w b kc kf m h n) :
    Calls Try.prog 13 #[.pointer (some ⟨b, 0, none⟩), .string s] w fun e w' => e = .returned (.bool false) ∧ ∃ q, w' = w.drewN q := by
  obtain ⟨f, G, hpw, hon, hle, h1, h2, hlt, hh, hn⟩ := k
  have Hfit := Lib.hid (ppfits_at b kc.length kf.length m s false w h2 hle (decide_eq_false hs) hpw.cells.2.1 hpw.cells.2.2.1 hpw.cells.2.2.2.1)
  clear hpw hon hle h1 h2 hlt hh hn hs
  go_enter Try.func13, Try.ntmps13
  go_wp2_with fail
  refine Hfit.out.mono ?_
  rintro e w1 ⟨rfl, q, rfl⟩
  go_wp2
  go_ret
  exact ⟨rfl, _, rfl⟩
set_option maxHeartbeats 400000 in
set_option maxRecDepth 100000 in
theorem ppinj_no (b : Nat) (kc kf : List Bm.Itm) (m h n : Nat) (s : ByteArray) (w : World) (hs : ¬ s.size ≤ m - kc.length - kf.length) (k : PI w b kc kf m h n) :
    Calls Try.prog 23 #[.pointer (some ⟨b, 0, none⟩), .string s] w fun e w' => e = .returned (.bool false) ∧ ∃ q, w' = w.drewN q := by
  obtain ⟨f, G, hpw, hon, hle, h1, h2, hlt, hh, hn⟩ := k
  have Hfit := Lib.hid (ppfits_at b kc.length kf.length m s false w h2 hle (decide_eq_false hs) hpw.cells.2.1 hpw.cells.2.2.1 hpw.cells.2.2.2.1)
  clear hpw hon hle h1 h2 hlt hh hn hs
  go_enter Try.func23, Try.ntmps23
  go_wp2_with fail
  refine Hfit.out.mono ?_
  rintro e w1 ⟨rfl, q, rfl⟩
  go_wp2
  go_ret
  exact ⟨rfl, _, rfl⟩
theorem lt_append {kc kf : List Bm.Itm} {l : List Nat} {s : Bool} (h : ∀ x ∈ kc ++ kf, x.1 < 256) (hl : ∀ x ∈ l, x < 256) : (∀ x ∈ kc ++ (kf ++ Bm.itms s l), x.1 < 256) ∧ ∀ x ∈ kc ++ Bm.itms s l ++ kf, x.1 < 256 := by
  have h1 : ∀ x ∈ kc, x.1 < 256 := fun x hx => h x (List.mem_append_left _ hx)
  have h2 : ∀ x ∈ kf, x.1 < 256 := fun x hx => h x (List.mem_append_right _ hx)
  have h3 := Bm.itms_lt (s := s) hl
  refine ⟨fun x hx => ?_, fun x hx => ?_⟩
  · rcases List.mem_append.1 hx with hx | hx
    · exact h1 x hx
    · rcases List.mem_append.1 hx with hx | hx
      · exact h2 x hx
      · exact h3 x hx
  · rcases List.mem_append.1 hx with hx | hx
    · rcases List.mem_append.1 hx with hx | hx
      · exact h1 x hx
      · exact h3 x hx
    · exact h2 x hx
set_option maxHeartbeats 1000000 in
set_option maxRecDepth 100000 in
theorem ppsend_yes (b : Nat) (kc kf : List Bm.Itm) (m h n : Nat) (l : List Nat) (w : World) (hs : l.length ≤ m - kc.length - kf.length) (hl : ∀ x ∈ l, x < 256) (k : PI w b kc kf m h n) :
    Calls Try.prog 13 #[.pointer (some ⟨b, 0, none⟩), .string (strOf l)] w fun e w' => e = .returned (.bool true) ∧ PI w' b kc (kf ++ Bm.itms true l) m h n ∧ w.grownBy w' (some b) := by
  obtain ⟨f, G, hpw, hon, hle, h1, h2, hlt, hh, hn⟩ := k
  have hsz := strOf_size l
  have Hfit := Lib.hid (ppfits_at b kc.length kf.length m (strOf l) true w h2 hle (decide_eq_true (by rw [hsz]; exact hs)) hpw.cells.2.1 hpw.cells.2.2.1 hpw.cells.2.2.2.1)
  have Hpw := Lib.hid hpw
  have Hend := Lib.hid (show Bm.OnG (Bm.putG G (kc.length + kf.length) (Bm.itms true l)) (kc ++ (kf ++ Bm.itms true l)) ∧ kc.length + (kf ++ Bm.itms true l).length ≤ m ∧ 1 ≤ m ∧ m ≤ 2048 ∧ (∀ x ∈ kc ++ (kf ++ Bm.itms true l), x.1 < 256) ∧ h < 18446744073709551616 ∧ n < 1000000000000 from
    ⟨by have := hon.put (Bm.itms true l); rwa [List.length_append, List.append_assoc] at this, by rw [List.length_append, Bm.itms_length]; omega, h1, h2, (lt_append hlt hl).1, hh, hn⟩)
  have Hput := Lib.hid (fun (W : World) hk => ppput_any b f (kc.length + kf.length) G kc.length kf.length m h n l true W (by omega) hl hk)
  have hfl : (kf.length : Int) + (l.length : Int) = (((kf ++ Bm.itms true l).length : Nat) : Int) := by rw [List.length_append, Bm.itms_length]; omega
  have hcf : (kc.length : Int) + (kf.length : Int) = ((kc.length + kf.length : Nat) : Int) := by omega
  have hb2 : (kf ++ Bm.itms true l).length ≤ 2048 := by have := Hend.out.2.1; omega
  have hb3 : kc.length + kf.length ≤ 2048 := by omega
  have hw1 : IntKind.i64.wrap ((kc.length + kf.length : Nat) : Int) = ((kc.length + kf.length : Nat) : Int) := IntWalk.i64_in _ (by omega)
  clear hpw hon hle h1 h2 hlt hh hn hs hl
  have Hfin : Hid (∀ W, PW W b f (Bm.putG G (kc.length + kf.length) (Bm.itms true l)) kc.length (kf ++ Bm.itms true l).length m h n → PI W b kc (kf ++ Bm.itms true l) m h n) := Lib.hid fun W hW => ⟨f, _, hW, Hend.out⟩
  clear Hend
  generalize Bm.putG G (kc.length + kf.length) (Bm.itms true l) = G2 at *
  generalize (kf ++ Bm.itms true l).length = fl2 at *
  generalize kc.length + kf.length = e at *
  generalize kf.length = fl at *
  generalize kc.length = c at *
  generalize strOf l = s at *
  go_enter Try.func13, Try.ntmps13
  go_wp2_with fail
  refine Hfit.out.mono ?_
  rintro e w1 ⟨rfl, q, rfl⟩
  clear Hfit
  have Hpw1 := Lib.hid (show PW (w.drewN q) b f G c fl m h n from Hpw.out.keep rfl)
  clear Hpw
  have Hg1 := Lib.hid (grown_drewN (grown_refl w (some b)) q)
  generalize w.drewN q = w1 at *
  have c1 := Hpw1.out.cells.2.1
  have c2 := Hpw1.out.cells.2.2.1
  go_wp2_with fail
  go_region_held3 (fun W : World => W.cell? ⟨b, 4097, none⟩ = some (.int .i64 (c : Int)) ∧ W.cell? ⟨b, 4098, none⟩ = some (.int .i64 (fl : Int))) (first | exact ⟨c1, c2⟩ | exact ⟨d1, d2⟩) ((go_at_call 33; refine (Hput.out w1.drew Hpw1.out).mono ?_; rintro e w2 ⟨rfl, hp2, hg2⟩; have d1 := hp2.cells.2.1; have d2 := hp2.cells.2.2.1; have Hp2 := Lib.hid hp2; have Hg2 := Lib.hid hg2; clear hp2 hg2))
  all_goals
    have c3 := Hp2.out.cells.2.2.1
    have f3 := Hp2.out.cells.2.2.2.2.2.2.1 4098
    have Hp3 := Lib.hid (Hp2.out.setF fl2)
    have Hg3 := Lib.hid (grown_set (Hg1.out.trans (show w1.grownBy w2 (some b) from ⟨Hg2.out.os, Hg2.out.tape, Hg2.out.output, Hg2.out.size, Hg2.out.block⟩)) 4098 (.int .i64 (fl2 : Int)))
    clear c1 c2 Hput Hg2 Hg1
    go_wp2
    go_ret
    exact ⟨rfl, Hfin.out _ Hp3.out, Hg3.out⟩
set_option maxHeartbeats 1000000 in
set_option maxRecDepth 100000 in
theorem ppinj_yes (b : Nat) (kc kf : List Bm.Itm) (m h n : Nat) (l : List Nat) (w : World) (hs : l.length ≤ m - kc.length - kf.length) (hl : ∀ x ∈ l, x < 256) (k : PI w b kc kf m h n) :
    Calls Try.prog 23 #[.pointer (some ⟨b, 0, none⟩), .string (strOf l)] w fun e w' => e = .returned (.bool true) ∧ PI w' b (kc ++ Bm.itms false l) kf m h n ∧ w.grownBy w' (some b) := by
  obtain ⟨f, G, hpw, hon, hle, h1, h2, hlt, hh, hn⟩ := k
  have hsz := strOf_size l
  have Hfit := Lib.hid (ppfits_at b kc.length kf.length m (strOf l) true w h2 hle (decide_eq_true (by rw [hsz]; exact hs)) hpw.cells.2.1 hpw.cells.2.2.1 hpw.cells.2.2.2.1)
  have Hpw := Lib.hid hpw
  have Hend := Lib.hid (show Bm.OnG (Bm.putG (Bm.shiftG G l.length kc.length (kc.length + kf.length)) kc.length (Bm.itms false l)) (kc ++ Bm.itms false l ++ kf) ∧ (kc ++ Bm.itms false l).length + kf.length ≤ m ∧ 1 ≤ m ∧ m ≤ 2048 ∧ (∀ x ∈ kc ++ Bm.itms false l ++ kf, x.1 < 256) ∧ h < 18446744073709551616 ∧ n < 1000000000000 from
    ⟨by have := hon.between (Bm.itms false l); rwa [Bm.itms_length] at this, by rw [List.length_append, Bm.itms_length]; omega, h1, h2, (lt_append hlt hl).2, hh, hn⟩)
  have Hsh := Lib.hid (fun (W : World) hk => ppshift_any b f G kc.length kf.length m h n l.length W (by omega) hk)
  have Hput := Lib.hid (fun (W : World) hk => ppput_any b f kc.length (Bm.shiftG G l.length kc.length (kc.length + kf.length)) kc.length kf.length m h n l false W (by omega) hl hk)
  have hfl : (kc.length : Int) + (l.length : Int) = (((kc ++ Bm.itms false l).length : Nat) : Int) := by rw [List.length_append, Bm.itms_length]; omega
  have hb2 : (kc ++ Bm.itms false l).length ≤ 2048 := by have := Hend.out.2.1; omega
  clear hpw hon hle h1 h2 hlt hh hn hs hl
  have Hfin : Hid (∀ W, PW W b f (Bm.putG (Bm.shiftG G l.length kc.length (kc.length + kf.length)) kc.length (Bm.itms false l)) (kc ++ Bm.itms false l).length kf.length m h n → PI W b (kc ++ Bm.itms false l) kf m h n) := Lib.hid fun W hW => ⟨f, _, hW, Hend.out⟩
  clear Hend
  generalize Bm.putG (Bm.shiftG G l.length kc.length (kc.length + kf.length)) kc.length (Bm.itms false l) = G3 at *
  generalize Bm.shiftG G l.length kc.length (kc.length + kf.length) = G2 at *
  generalize (kc ++ Bm.itms false l).length = c2 at *
  generalize kf.length = fl at *
  generalize kc.length = c at *
  generalize strOf l = s at *
  go_enter Try.func23, Try.ntmps23
  go_wp2_with fail
  refine Hfit.out.mono ?_
  rintro e w1 ⟨rfl, q, rfl⟩
  clear Hfit
  have Hpw1 := Lib.hid (show PW (w.drewN q) b f G c fl m h n from Hpw.out.keep rfl)
  clear Hpw
  have Hg1 := Lib.hid (grown_drewN (grown_refl w (some b)) q)
  generalize w.drewN q = w1 at *
  go_wp2_with fail
  refine (Hsh.out w1 Hpw1.out).mono ?_
  rintro e w2 ⟨rfl, hp2, hg2⟩
  have c1 := hp2.cells.2.1
  have Hp2 := Lib.hid hp2
  have Hg2 := Lib.hid (Hg1.out.trans hg2)
  clear hp2 hg2 Hg1 Hsh Hpw1
  go_wp2_with fail
  refine (Hput.out w2 Hp2.out).mono ?_
  rintro e w3 ⟨rfl, hp3, hg3⟩
  have d1 := hp3.cells.2.1
  have Hp3 := Lib.hid hp3
  have Hg3 := Lib.hid (Hg2.out.trans hg3)
  clear hp3 hg3
  have f3 := Hp3.out.cells.2.2.2.2.2.2.1 4097
  have Hp4 := Lib.hid (Hp3.out.setC c2)
  have Hg4 := Lib.hid (grown_set Hg3.out 4097 (.int .i64 (c2 : Int)))
  clear c1 Hput Hg2 Hp2 Hp3 Hg3
  go_wp2
  go_ret
  exact ⟨rfl, Hfin.out _ Hp4.out, Hg4.out⟩
set_option maxHeartbeats 1000000 in
set_option maxRecDepth 100000 in
theorem ppdel_any (b : Nat) (kc kf : List Bm.Itm) (m h n : Nat) (x : Int) (k : Nat) (w : World) (hx : Bm.comeN x kf.length = k) (kp : PI w b kc kf m h n) :
    Calls Try.prog 14 #[.pointer (some ⟨b, 0, none⟩), .int .i64 x] w fun e w' => e = .returned (.int .i64 (k : Int)) ∧ PI w' b (kc ++ kf.take k) (kf.drop k) m h n ∧ w.grownBy w' (some b) := by
  obtain ⟨hk, hmn⟩ := Bm.come_le x kf.length
  rw [hx] at hk hmn
  clear hx
  by_cases hk0 : k = 0
  · subst hk0
    rw [List.take_zero, List.append_nil, List.drop_zero]
    have Hkp := Lib.hid kp
    obtain ⟨f, G, hpw, _⟩ := kp
    have Hfl := Lib.hid (ppflies_at b kf.length w hpw.cells.2.2.1)
    clear hpw hk
    generalize kf.length = fl at *
    go_enter Try.func14, Try.ntmps14
    go_wp2_with fail
    refine Hfl.out.mono ?_
    rintro e w' ⟨rfl, rfl⟩
    go_wp2
    go_ret
    exact ⟨rfl, Hkp.out, grown_refl _ _⟩
  · obtain ⟨f, G, hpw, hon, hle, h1, h2, hlt, hh, hn⟩ := kp
    have Hfl := Lib.hid (ppflies_at b kf.length w hpw.cells.2.2.1)
    have e1 : (kc ++ kf.take k) ++ kf.drop k = kc ++ kf := by rw [List.append_assoc, List.take_append_drop]
    have l1 : (kc ++ kf.take k).length = kc.length + k := by rw [List.length_append, List.length_take]; omega
    have l2 : (kf.drop k).length = kf.length - k := List.length_drop ..
    have Hfin : Hid (∀ W, PW W b f G (kc.length + k) (kf.length - k) m h n → PI W b (kc ++ kf.take k) (kf.drop k) m h n) := Lib.hid fun W hW =>
      ⟨f, G, by rw [l1, l2]; exact hW, by rw [e1]; exact hon, by rw [l1, l2]; omega, h1, h2, by rw [e1]; exact hlt, hh, hn⟩
    have hkp : 0 < k := by omega
    have hkI : decide ((0 : Int) < (k : Int)) = true := decide_eq_true (by omega)
    have s1 : (kf.length : Int) - (k : Int) = ((kf.length - k : Nat) : Int) := by omega
    have s2 : (kc.length : Int) + (k : Int) = ((kc.length + k : Nat) : Int) := by omega
    have b1 : kf.length - k ≤ 2048 := by omega
    have b2 : kc.length + k ≤ 2048 := by omega
    have c2 := hpw.cells.2.2.1
    have f2 := hpw.cells.2.2.2.2.2.2.1 4098
    have c1 := (hpw.setF (kf.length - k)).cells.2.1
    have f1 := (hpw.setF (kf.length - k)).cells.2.2.2.2.2.2.1 4097
    have Hp := Lib.hid ((hpw.setF (kf.length - k)).setC (kc.length + k))
    clear hpw hon hle h1 h2 hlt hh hn e1 l1 l2 hk
    generalize kf.length - k = fl2 at *
    generalize kc.length + k = cc2 at *
    generalize kf.length = fl at *
    generalize kc.length = c at *
    go_enter Try.func14, Try.ntmps14
    go_wp2_with fail
    refine Hfl.out.mono ?_
    rintro e w' ⟨rfl, rfl⟩
    go_wp2
    go_ret
    exact ⟨rfl, Hfin.out _ Hp.out, grown_set (grown_set (grown_refl _ _) _ _) _ _⟩
theorem setRow_rowP {w : World} {g : Nat} {t : TypeId} {cs ds : List Value} (h : Row w g t cs) : Row (w.setRow g ds.toArray) g t ds := by
  unfold Row at h ⊢
  exact setRow_heap w g cs.toArray ds.toArray t (0, 0) h
theorem setRow_grownP (w : World) (g : Nat) (ds : List Value) : w.grownBy (w.setRow g ds.toArray) (some g) :=
  ⟨rfl, rfl, rfl, by simp [World.setRow], fun k _ hn => by
    have hne : g ≠ k := fun e => hn (by rw [e])
    simp [World.setRow, Array.getElem?_modify, hne]⟩
theorem store_whole {w : World} {g : Nat} {t : TypeId} {cs ds : List Value} (h : Row w g t cs) (hl : ds.length = cs.length) (h1 : ∀ v ∈ ds, v.oneCell' = true) : (storeCells ⟨g, 0, none⟩ ds).run Try.prog w = .ok () (w.setRow g ds.toArray) := by
  have h2 := run_storeCells_at Try.prog g 0 t ds 0 cs.toArray w h (by rw [List.size_toArray]; omega) h1
  rw [h2]
  congr 2
  rw [List.drop_of_length_le (by show cs.length ≤ _; omega)]
  simp
set_option maxHeartbeats 400000 in
set_option maxRecDepth 100000 in
theorem ppsend_nil (s : ByteArray) (w : World) : Calls Try.prog 13 #[.pointer none, .string s] w fun e w' => e = .returned (.bool false) ∧ w = w' := by
  have H := Lib.hid (ppfits_nil s w)
  go_enter Try.func13, Try.ntmps13
  go_wp2_with fail
  refine H.out.mono ?_
  rintro e w1 ⟨rfl, rfl⟩
  go_wp2
  go_ret
  exact ⟨rfl, rfl⟩
set_option maxHeartbeats 400000 in
set_option maxRecDepth 100000 in
theorem ppinj_nil (s : ByteArray) (w : World) : Calls Try.prog 23 #[.pointer none, .string s] w fun e w' => e = .returned (.bool false) ∧ w = w' := by
  have H := Lib.hid (ppfits_nil s w)
  go_enter Try.func23, Try.ntmps23
  go_wp2_with fail
  refine H.out.mono ?_
  rintro e w1 ⟨rfl, rfl⟩
  go_wp2
  go_ret
  exact ⟨rfl, rfl⟩
set_option maxHeartbeats 400000 in
set_option maxRecDepth 100000 in
theorem ppdel_nil (x : Int) (w : World) : Calls Try.prog 14 #[.pointer none, .int .i64 x] w fun e w' => e = .returned (.int .i64 0) ∧ w = w' := by
  have H := Lib.hid (ppflies_nil w)
  have hm : min (max x 0) 0 = 0 := by omega
  go_enter Try.func14, Try.ntmps14
  go_wp2_with fail
  refine H.out.mono ?_
  rintro e w1 ⟨rfl, rfl⟩
  go_wp2
  go_ret
  exact ⟨rfl, rfl⟩
end Go.Proofs.Ytckmdeiahpijcaa
