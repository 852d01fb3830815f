/-
  The reference of layer 10 (litcode), by its walk: Table, Read. Conditions: as each theorem's premises say (up to 256 lengths of 0 to 11; up to ten thousand bytes).
-/
import Derived.Test.YtgcfdjgfnagmjaaGreatGah
import Derived.Test.YtgcfdjgfnagmjaaGreatGac
import Derived.BigQuiet
import Derived.WalkSmall
import Derived.Deep.QuietTactic
import Derived.Deep.RegionHeld3
import Derived.Deep.DeepCutAuto
namespace Go.Proofs.YtgcfdjgfnagmjaaGreat
open Go.RowKit

theorem conv_u8 (x : Nat) (h : x < 256) : IntKind.u8.wrap (x : Int) = (x : Int) := by
  have : IntKind.u8.wrap (x : Int) = (x : Int) % 256 := by simp [IntKind.wrap, IntKind.bits, IntKind.signed]
  rw [this]; omega

set_option maxHeartbeats 1000000 in
set_option maxRecDepth 100000 in
theorem xtable_any (A : Option Addr) (c : Nat) (ls : List Nat) (w : World) (hl : ls.length ≤ 256) (h11 : ∀ x ∈ ls, x ≤ 11) (hne : 0 < (Bm.shortL ls).length) (hc : ls.length ≤ c) (hr : Reads w A (i64s ls)) :
    Calls Tryz.prog 37 #[.slice A ls.length c] w fun e w' => e = .returned (.string (strOf (Bm.tableL (Bm.shortL ls)))) ∧ Below w.heap.size w w' := by
  obtain ⟨i0, hi, hz0, hz1, hz2⟩ := info_parts info_u8
  have hsh := gshort_any A c (ls.map fun n : Nat => (n : Int)) w (by simp; omega) (by simpa using hc) (by rw [i64z_nat]; exact hr)
  rw [List.length_map] at hsh
  have Hsh := Lib.hid (hsh.mono fun e w' ⟨k, he, hk, hw⟩ => (show e = Ending.returned (.slice A (Bm.shortL ls).length c) ∧ w = w' from by
    obtain ⟨_, e2, _⟩ := short_ends ls k hk
    exact ⟨by rw [← e2]; exact he, hw⟩))
  obtain ⟨m0, hm0⟩ := Bm.short_split ls
  have hrd : Reads w A (i64s (Bm.shortL ls)) := by
    have h := reads_take hr (Bm.shortL ls).length
    have e : ∀ l1 l2 : List Nat, (i64s (l1 ++ l2)).take l1.length = i64s l1 := fun l1 l2 => by rw [← i64s_append, ← i64s_length l1, List.take_left]
    have e2 := e (Bm.shortL ls) (List.replicate m0 0)
    rw [← hm0] at e2
    rwa [e2] at h
  have hs11 : ∀ x ∈ Bm.shortL ls, x ≤ 11 := fun x hx => h11 x (by rw [hm0]; exact List.mem_append_left _ hx)
  have hsl : (Bm.shortL ls).length ≤ 256 := by
    have := congrArg List.length hm0
    rw [List.length_append] at this
    omega
  clear hsh hm0 hr h11
  generalize Bm.shortL ls = l at *
  have hbl : (l.length : Int) - 1 = ((l.length - 1 : Nat) : Int) := by omega
  have Hrd := Lib.hid hrd
  have H11 := Lib.hid hs11
  clear hrd hs11
  go_enter Tryz.func37, Tryz.ntmps37
  go_wp2_with fail
  refine Hsh.out.mono ?_
  rintro e w' ⟨rfl, rfl⟩
  have hown0 : (w.alloc (.cells #[.int .u8 ((l.length - 1 : Nat) : Int)] 5)).ownsRow w.heap.size 5 1 (.slice (some ⟨w.heap.size, 0, none⟩) 1 1) 1 (u8s [l.length - 1]) := own_of_row (Row.new w 5 (u8s [l.length - 1])) (Nat.le_refl _) (by simp)
  have Hown0 := Lib.hid hown0
  have Hal := Lib.hid ((Below.refl w.heap.size w).alloc (Nat.le_refl _) (.cells #[.int .u8 ((l.length - 1 : Nat) : Int)] 5))
  clear hown0
  go_wp2
  go_loopw [4, 5, 6] (fun u iv _ wr => ∃ k : Nat, k ≤ (l.length + 1) / 2 ∧ iv = .int .i64 (2 * (k : Int)) ∧ Hid (wr.ownsRow w.heap.size 5 1 u (1 + k) (u8s ((l.length - 1) :: (List.range k).map (Bm.pairAt l)))) ∧ Hid (Below w.heap.size w wr)) (fun _ iv _ _ => l.length + 1 - (intOf iv).toNat)
  case atStart => exact ⟨0, by omega, rfl, Hown0, Hal⟩
  case round =>
    obtain ⟨k, hk, rfl, hown, hbel⟩ := hrel
    by_cases hkl : 2 * k < l.length
    · obtain ⟨g1, off1, rfl, hc1⟩ := reads_i9 (reads_on Hrd.out hbel.out) (by omega)
      have c1 := hc1 (2 * k) hkl
      have h187 := Bm.pair_lt H11.out k
      have hx11 := H11.out l[2 * k] (List.getElem_mem hkl)
      have hsuc : u8s ((l.length - 1) :: (List.range k).map (Bm.pairAt l)) ++ [Value.int .u8 (Bm.pairAt l k : Int)] = u8s ((l.length - 1) :: (List.range (k + 1)).map (Bm.pairAt l)) := by simp [u8s, List.range_succ]
      have Hsuc := Lib.hid hsuc
      clear hsuc
      have hfin : ∀ (u' : Value) (w2 : World), w2.ownsRow w.heap.size 5 1 u' (1 + k + 1) (u8s ((l.length - 1) :: (List.range k).map (Bm.pairAt l)) ++ [Value.int .u8 (Bm.pairAt l k : Int)]) → Hid (w2.ownsRow w.heap.size 5 1 u' (1 + (k + 1)) (u8s ((l.length - 1) :: (List.range (k + 1)).map (Bm.pairAt l)))) := fun u' w2 h => by
        rw [Hsuc.out] at h
        exact Lib.hid h
      have Hfin := Lib.hid hfin
      clear hfin Hsuc
      by_cases hk2 : 2 * k + 1 < l.length
      · have c2 := hc1 (2 * k + 1) hk2
        have hy11 := H11.out l[2 * k + 1] (List.getElem_mem hk2)
        have hpv : Bm.pairAt l k = l[2 * k] + 16 * l[2 * k + 1] := by rw [Bm.pairAt, List.getElem?_eq_getElem hkl, List.getElem?_eq_getElem hk2]; rfl
        have d2 : decide (2 * (k : Int) + 1 < (l.length : Int)) = true := decide_eq_true (by omega)
        clear hc1
        generalize l[2 * k] = x at *
        generalize l[2 * k + 1] = y at *
        rw [hpv] at Hfin h187
        clear hpv
        have hwr : (x : Int) + 16 * (y : Int) = ((x + 16 * y : Nat) : Int) := by omega
        have Hwr := Lib.hid hwr
        clear hwr
        go_wp2_with (at_builtin; refine wpList_append_own _ rfl _ _ 35 rfl w.heap.size 5 i0 (.int .u8 0) 1 1 Tryz.underlying35 hi hz0 hz1 hz2 rfl (by decide) _ _ _ rfl (hown.out.alloc _) ⟨wr.heap.size, 0, none⟩ 1 1 [.int .u8 ((x : Int) + 16 * (y : Int))] rfl rfl ?d1 ?d2 ?d3 ?d4 ?d5 ?_)
        case d1 =>
          intro j u hj
          match j, hj with
          | 0, hj => simp at hj; subst hj; simp [Addr.add]
        case d2 => intro u hu; simp at hu; subst hu; rfl
        case d3 => unfold maxLen; omega
        case d4 => omega
        case d5 => have := hbel.out.size; simp; omega
        intro u' w7 hown7 hgr7 _
        have hbel7 : Below w.heap.size w w7 := (hbel.out.alloc hbel.out.size _).grown hgr7 (by have := hbel.out.size; simp; omega) (fun x e => (hown.out.lt x e).1)
        rw [Hwr.out] at hown7
        have Hown7 := Hfin.out u' w7 hown7
        have Hbel7 := Lib.hid hbel7
        clear hown7 hgr7 hbel7 hown hbel Hfin
        go_wp2
        go_roundw
        case rel => exact ⟨k + 1, by omega, by go_num, Hown7, Hbel7⟩
        case measure => simp [intOf]; omega
      · have hpv : Bm.pairAt l k = l[2 * k] := by rw [Bm.pairAt, List.getElem?_eq_getElem hkl, List.getElem?_eq_none (by omega)]; rfl
        have d2 : decide (2 * (k : Int) + 1 < (l.length : Int)) = false := decide_eq_false (by omega)
        clear hc1
        generalize l[2 * k] = x at *
        rw [hpv] at Hfin h187
        clear hpv
        go_wp2_with (at_builtin; refine wpList_append_own _ rfl _ _ 35 rfl w.heap.size 5 i0 (.int .u8 0) 1 1 Tryz.underlying35 hi hz0 hz1 hz2 rfl (by decide) _ _ _ rfl (hown.out.alloc _) ⟨wr.heap.size, 0, none⟩ 1 1 [.int .u8 (x : Int)] rfl rfl ?d1 ?d2 ?d3 ?d4 ?d5 ?_)
        case d1 =>
          intro j u hj
          match j, hj with
          | 0, hj => simp at hj; subst hj; simp [Addr.add]
        case d2 => intro u hu; simp at hu; subst hu; rfl
        case d3 => unfold maxLen; omega
        case d4 => omega
        case d5 => have := hbel.out.size; simp; omega
        intro u' w7 hown7 hgr7 _
        have hbel7 : Below w.heap.size w w7 := (hbel.out.alloc hbel.out.size _).grown hgr7 (by have := hbel.out.size; simp; omega) (fun x e => (hown.out.lt x e).1)
        have Hown7 := Hfin.out u' w7 hown7
        have Hbel7 := Lib.hid hbel7
        clear hown7 hgr7 hbel7 hown hbel Hfin
        go_wp2
        go_roundw
        case rel => exact ⟨k + 1, by omega, by go_num, Hown7, Hbel7⟩
        case measure => simp [intOf]; omega
    · obtain rfl : k = (l.length + 1) / 2 := by omega
      have htl : (l.length - 1) :: (List.range ((l.length + 1) / 2)).map (Bm.pairAt l) = Bm.tableL l := rfl
      rw [htl] at hown
      have htlt := Bm.tableL_lt l H11.out hsl
      have htlen := Bm.tableL_length l
      obtain ⟨A9, c9, rfl, hrd9, _⟩ := own_reads hown.out
      have hcv := conv_bytes wr A9 c9 (Bm.tableL l) htlt hrd9
      rw [htlen] at hcv
      clear hown htl htlt hrd9 H11
      go_wp2
      go_ret
      exact ⟨rfl, hbel.out⟩

/-- What the reference's Read answers. -/
def ReadA (w' : World) (e : Ending) : Option (List Nat × Nat) → Prop
  | none => e = .returned (.tuple #[.slice none 0 0, .int .i64 0])
  | some t => ∃ A c, e = .returned (.tuple #[.slice A t.1.length c, .int .i64 (t.2 : Int)]) ∧ Reads w' A (i64s t.1)
theorem emptyS (bs : List Nat) : (strOf bs).toList.isEmpty = decide (bs = []) := by
  rw [strOf_toList]
  cases bs <;> simp
theorem whole_nat (l : List Nat) : Bm.WholeI (l.map fun n : Nat => (n : Int)) ↔ Bm.WholeN l := by
  have e : (l.map fun n : Nat => (n : Int)).map Int.toNat = l := by
    rw [List.map_map]
    conv => rhs; rw [← List.map_id l]
    exact List.map_congr_left fun x _ => by simp
  unfold Bm.WholeI
  rw [e]
  constructor
  · exact fun h => h.2
  · intro h
    refine ⟨⟨by rw [List.length_map]; exact h.1, fun x hx => ?_⟩, h⟩
    obtain ⟨n, hn, rfl⟩ := List.mem_map.1 hx
    have := h.2.1 n hn
    omega

set_option maxHeartbeats 1000000 in
set_option maxRecDepth 100000 in
theorem xread_any (bs : List Nat) (w : World) (hl : bs.length ≤ 10000) (hb : ∀ x ∈ bs, x < 256) :
    Calls Tryz.prog 20 #[.string (strOf bs)] w fun e w' => ReadA w' e (Bm.readL bs) ∧ Below w.heap.size w w' := by
  obtain ⟨i0, hi, hz0, hz1, hz2⟩ := info_parts info_in
  have hem := emptyS bs
  have hsz := strOf_size bs
  by_cases hne : bs = []
  · rw [decide_eq_true hne] at hem
    have hx : Bm.readL bs = none := by unfold Bm.readL; rw [if_pos hne]
    rw [hx]
    clear hx hb hsz
    generalize strOf bs = sb at *
    go_enter Tryz.func20, Tryz.ntmps20
    go_wp2
    go_ret2
    exact ⟨rfl, Below.refl _ _⟩
  · rw [decide_eq_false hne] at hem
    have h0 : 0 < bs.length := List.length_pos_iff.2 hne
    have hi0 : ∀ W : World, (Instr.index 9 (.string (strOf bs)) (.int .i64 0)).run Tryz.prog W = .ok (.int .u8 ((bs[0] : Nat) : Int)) W := fun W => index_at bs 0 W h0 (hb _ (List.getElem_mem h0))
    have h256 := hb _ (List.getElem_mem h0)
    have e0 : bs[0]?.getD 0 = bs[0] := by rw [List.getElem?_eq_getElem h0, Option.getD_some]
    obtain ⟨res, hres⟩ : ∃ r, r = Bm.readL bs := ⟨_, rfl⟩
    rw [← hres]
    have hres2 := hres
    unfold Bm.readL at hres2
    rw [if_neg hne, e0] at hres2
    have Hres := Lib.hid hres2
    have Hidx := Lib.hid (fun W j (h : j < bs.length) => index_at bs j W h (hb _ (List.getElem_mem h)))
    have Hcut := Lib.hid (fun W j (h : j ≤ bs.length) => str_to bs j h W)
    have Hb := Lib.hid hb
    clear hres hres2 e0 hb hne
    generalize bs[0] = x at *
    obtain ⟨at', hat⟩ : ∃ a, a = 1 + (x + 2) / 2 := ⟨_, rfl⟩
    rw [← hat] at Hres
    have hai : 1 + ((x : Int) + 1 + 1) / 2 = (at' : Int) := by omega
    by_cases hfew : bs.length < at'
    · have hx : res = none := by rw [Hres.out, if_pos hfew]
      have d1 : decide ((bs.length : Int) < (at' : Int)) = true := decide_eq_true (by omega)
      have Hx := Lib.hid hx
      clear hx Hidx Hcut
      generalize strOf bs = sb at *
      go_enter Tryz.func20, Tryz.ntmps20
      go_wp2
      go_ret2
      exact ⟨by rw [Hx.out]; rfl, Below.refl _ _⟩
    · have d1 : decide ((bs.length : Int) < (at' : Int)) = false := decide_eq_false (by omega)
      have hres3 : res = if Bm.WholeN (Bm.nibs bs (x + 1)) ∧ Bm.tableL (Bm.shortL (Bm.nibs bs (x + 1))) = bs.take at' then some (Bm.nibs bs (x + 1), at') else none := by rw [Hres.out, if_neg hfew]
      have Hres3 := Lib.hid hres3
      have Hat := Lib.hid hat
      clear hres3 Hres hat
      go_enter Tryz.func20, Tryz.ntmps20
      go_wp2
      go_loopw [6, 7, 8] (fun u iv _ wr => ∃ k : Nat, k ≤ x + 1 ∧ iv = .int .i64 (k : Int) ∧ Hid (wr.ownsRow w.heap.size 3 1 u k (i64s (Bm.nibs bs k))) ∧ Hid (Below w.heap.size w wr)) (fun _ iv _ _ => x + 1 - (intOf iv).toNat)
      case atStart => exact ⟨0, by omega, rfl, Lib.hid (World.ownsRow_nil _ _ _ _), Lib.hid (Below.refl _ _)⟩
      case round =>
        obtain ⟨k, hk, rfl, hown, hbel⟩ := hrel
        by_cases hkx : k < x + 1
        · have hat := Hat.out
          obtain ⟨j, hj⟩ : ∃ j, j = 1 + k / 2 := ⟨_, rfl⟩
          have hjl : j < bs.length := by omega
          have hji : 1 + (k : Int) / 2 = (j : Int) := by omega
          have hidx := fun W => Hidx.out W j hjl
          have hy := Hb.out bs[j] (List.getElem_mem hjl)
          obtain ⟨v, hv⟩ : ∃ v, v = Bm.nibAt bs k := ⟨_, rfl⟩
          have hv2 := hv
          unfold Bm.nibAt at hv2
          rw [← hj, List.getElem?_eq_getElem hjl, Option.getD_some] at hv2
          have Hv : Hid (Bm.nibAt bs k = v) := Lib.hid hv.symm
          clear hat hj hv
          generalize bs[j] = y at *
          by_cases hodd : k % 2 = 1
          · rw [if_pos hodd] at hv2
            have dq : ((k : Int) % 2 == 1) = true := by rw [beq_iff_eq]; omega
            have hvi : (y : Int) / 16 % 16 = (v : Int) := by omega
            clear hv2
            go_wp2_with (at_builtin; refine wpList_append_own _ rfl _ _ 33 rfl w.heap.size 3 i0 (.int .i64 0) 1 8 Tryz.underlying33 hi hz0 hz1 hz2 rfl (by decide) _ _ _ rfl (hown.out.alloc _) ⟨wr.heap.size, 0, none⟩ 1 1 [.int .i64 (v : Int)] rfl rfl ?d1 ?d2 ?d3 ?d4 ?d5 ?_)
            case d1 =>
              intro j u hj
              match j, hj with
              | 0, hj => simp at hj; subst hj; simp [Addr.add]
            case d2 => intro u hu; simp at hu; subst hu; rfl
            case d3 => unfold maxLen; omega
            case d4 => omega
            case d5 => have := hbel.out.size; simp; omega
            intro u' w7 hown7 hgr7 _
            have hbel7 : Below w.heap.size w w7 := (hbel.out.alloc hbel.out.size _).grown hgr7 (by have := hbel.out.size; simp; omega) (fun x e => (hown.out.lt x e).1)
            have e : i64s (Bm.nibs bs k) ++ [Value.int .i64 (v : Int)] = i64s (Bm.nibs bs (k + 1)) := by rw [Bm.nibs_succ, Hv.out]; simp [i64s]
            rw [e] at hown7
            have Hown7 := Lib.hid hown7
            have Hbel7 := Lib.hid hbel7
            clear hown7 hgr7 hbel7 hown hbel e
            go_wp2
            go_roundw
            case rel => exact ⟨k + 1, by omega, by go_num, Hown7, Hbel7⟩
            case measure => simp [intOf]; omega
          · rw [if_neg hodd] at hv2
            have dq : ((k : Int) % 2 == 1) = false := by rw [beq_eq_false_iff_ne]; omega
            have hvi : (y : Int) % 16 = (v : Int) := by omega
            clear hv2
            go_wp2_with (at_builtin; refine wpList_append_own _ rfl _ _ 33 rfl w.heap.size 3 i0 (.int .i64 0) 1 8 Tryz.underlying33 hi hz0 hz1 hz2 rfl (by decide) _ _ _ rfl (hown.out.alloc _) ⟨wr.heap.size, 0, none⟩ 1 1 [.int .i64 (v : Int)] rfl rfl ?d1 ?d2 ?d3 ?d4 ?d5 ?_)
            case d1 =>
              intro j u hj
              match j, hj with
              | 0, hj => simp at hj; subst hj; simp [Addr.add]
            case d2 => intro u hu; simp at hu; subst hu; rfl
            case d3 => unfold maxLen; omega
            case d4 => omega
            case d5 => have := hbel.out.size; simp; omega
            intro u' w7 hown7 hgr7 _
            have hbel7 : Below w.heap.size w w7 := (hbel.out.alloc hbel.out.size _).grown hgr7 (by have := hbel.out.size; simp; omega) (fun x e => (hown.out.lt x e).1)
            have e : i64s (Bm.nibs bs k) ++ [Value.int .i64 (v : Int)] = i64s (Bm.nibs bs (k + 1)) := by rw [Bm.nibs_succ, Hv.out]; simp [i64s]
            rw [e] at hown7
            have Hown7 := Lib.hid hown7
            have Hbel7 := Lib.hid hbel7
            clear hown7 hgr7 hbel7 hown hbel e
            go_wp2
            go_roundw
            case rel => exact ⟨k + 1, by omega, by go_num, Hown7, Hbel7⟩
            case measure => simp [intOf]; omega
        · obtain rfl : k = x + 1 := by omega
          have hres3 := Hres3.out
          obtain ⟨A1, c1, rfl, hrd, _⟩ := own_reads hown.out
          obtain ⟨hc1, _⟩ := own_capA hown.out
          have hnl := Bm.nibs_length bs (x + 1)
          have hwh := fun W (hb : Below wr.heap.size wr W) => vwhole_any A1 c1 ((Bm.nibs bs (x + 1)).map fun n : Nat => (n : Int)) W (by rw [List.length_map, hnl]; omega) (by rw [i64z_nat]; exact reads_on hrd hb)
          rw [List.length_map, hnl, decide_eq_decide.2 (whole_nat _)] at hwh
          have Hwh := Lib.hid hwh
          have Hrd := Lib.hid hrd
          by_cases hW : Bm.WholeN (Bm.nibs bs (x + 1))
          · rw [decide_eq_true hW] at Hwh
            obtain ⟨hws, hw0⟩ := Bm.whole_short _ hW
            have htb := fun W (hb : Below wr.heap.size wr W) => xtable_any A1 c1 (Bm.nibs bs (x + 1)) W hW.1 hW.2.1 hw0 (by rw [hnl]; exact hc1) (reads_on hrd hb)
            rw [hnl] at htb
            have htl := Bm.tableL_lt (Bm.shortL (Bm.nibs bs (x + 1))) hws.2.1 hws.1
            have hne := strOf_beq (Bm.tableL (Bm.shortL (Bm.nibs bs (x + 1)))) (bs.take at') htl (take_lt Hb.out at')
            obtain ⟨r, hr⟩ : ∃ r, r = decide (Bm.tableL (Bm.shortL (Bm.nibs bs (x + 1))) = bs.take at') := ⟨_, rfl⟩
            rw [← hr] at hne
            have hfin : res = if r = true then some (Bm.nibs bs (x + 1), at') else none := by
              rw [hres3, hr]
              by_cases hT : Bm.tableL (Bm.shortL (Bm.nibs bs (x + 1))) = bs.take at'
              · rw [if_pos ⟨hW, hT⟩, if_pos (decide_eq_true hT)]
              · rw [if_neg (fun h => hT h.2), if_neg (by rw [decide_eq_false hT]; exact Bool.false_ne_true)]
            have hct := fun W => Hcut.out W at' (by omega)
            have Htb := Lib.hid htb
            have Hfin := Lib.hid hfin
            clear hwh htb htl hr hfin hres3 Hres3 hws hw0 hown hrd Hidx Hcut
            generalize Bm.nibs bs (x + 1) = l at *
            generalize strOf (Bm.tableL (Bm.shortL l)) = sa at *
            generalize strOf (bs.take at') = sc at *
            go_upto_region 15 with fail
            go_region_held3 (fun W => Below wr.heap.size wr W) (first | with_reducible assumption | exact (Below.refl wr.heap.size wr).drew) (first
              | (go_at_call 36; (with_reducible refine (Hwh.out _ (by first | with_reducible assumption | exact (Below.refl wr.heap.size wr).drew)).mono ?_); rintro e w' ⟨rfl, rfl⟩)
              | (go_at_call 37; (with_reducible refine (Htb.out _ (by first | with_reducible assumption | exact (Below.refl wr.heap.size wr).drew)).mono ?_); rintro e wX ⟨rfl, hbX⟩; have HX : Below wr.heap.size wr wX := Below.trans (by first | with_reducible assumption | exact (Below.refl wr.heap.size wr).drew) (hbX.mono (Nat.le_refl _)); clear hbX))
            have HXw := Lib.hid (hbel.out.trans (HX.mono hbel.out.size))
            have HrX := Lib.hid (reads_on Hrd.out HX)
            have Hnl := Lib.hid hnl
            clear HX Hrd hbel Hwh Htb hct hnl
            cases r with
            | true =>
              have Hf : Hid (res = some (l, at')) := Lib.hid (by rw [Hfin.out, if_pos rfl])
              clear Hfin
              go_wp2
              go_ret2
              rw [Hf.out]
              exact ⟨⟨A1, c1, by show _ = Ending.returned (Value.tuple #[.slice A1 l.length c1, .int .i64 (at' : Int)]); rw [Hnl.out]; rfl, HrX.out⟩, HXw.out⟩
            | false =>
              have Hf : Hid (res = none) := Lib.hid (by rw [Hfin.out, if_neg Bool.false_ne_true])
              clear Hfin
              go_wp2
              go_ret2
              rw [Hf.out]
              exact ⟨rfl, HXw.out⟩
          · rw [decide_eq_false hW] at Hwh
            have hx : res = none := by rw [hres3, if_neg (fun h => hW h.1)]
            have Hx := Lib.hid hx
            have Hwq := Lib.hid (fun m => Hwh.out (wr.drewN m) (below_drewN (Below.refl _ _) m))
            clear hx hwh hres3 Hres3 hown hrd Hidx Hcut
            go_wp2_with fail
            go_quiet ((go_at_call 36; exact quiet_leftC (Hwq.out _)))
            go_wp2
            go_ret2
            exact ⟨by rw [Hx.out]; rfl, below_drewN hbel.out _⟩
end Go.Proofs.YtgcfdjgfnagmjaaGreat
