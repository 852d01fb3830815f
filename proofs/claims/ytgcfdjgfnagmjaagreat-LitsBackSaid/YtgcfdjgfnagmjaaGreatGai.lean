/-
  The reference of layer 10 (litcode), by its walk: Code, Encode. Conditions: as each theorem's premises say (up to a thousand lengths of 0 to 11, up to ten thousand bytes).
  The reference of layer 10 (litcode), by its walk: begins. Conditions: as the theorem's premises say.
  Plain mathematics for layer 9 (huff): two lightest at a time: no whole lengths cost less. It speaks of no program. No condition.
  Mathematics of layer 9's answers: lengths that may be answered for counts; whole lengths, above 0 just where the counts are, cost no less than Huffman's. No condition.
  The reference of layer 9, by its walk: Cost. Conditions: as the theorem's premises say.
  The program's layer 5 (count), by its walk: sized, Fair. Conditions: as each theorem's premises say.
  What layer 9's calls (huff) are to answer, as the laws' walks ask for it: definitions, each a premise of a law's walk. No condition.
  A slice of numbers in a block of the call's own, wherever in it it begins: what lies in it, a store, a cut, an append onto it. No condition.
  What huff's Lengths and Cost are to answer, as a law of a later layer asks for it: definitions, each a premise. No condition.
  The reference of layer 9 (huff), by its walk: Flat. Conditions: as the theorem's premises say.
-/
import Derived.Test.YtgcfdjgfnagmjaaGreatGah
import Derived.Test.YtgcfdjgfnagmjaaGreatGac
import Derived.Test.YtgcfdjgfnagmjaaGreatGag
import Derived.Test.YtgcfdjgfnagmjaaGreatGaa
import Derived.BigQuiet
import Derived.WalkSmall
import Derived.Deep.QuietTactic
import Derived.IntWalk
namespace Go.Proofs.YtgcfdjgfnagmjaaGreat
open Go.RowKit

namespace Bm
theorem cbits_take (ls : List Nat) (s k : Nat) (h : k < ls[s]?.getD 0) : (cbits ls s).take (k + 1) = (cbits ls s).take k ++ [codeN9 ls s / 2 ^ (ls[s]?.getD 0 - 1 - k) % 2] := by
  have hk : k < (cbits ls s).length := by rw [cbits_length]; exact h
  rw [List.take_succ_eq_append_getElem hk, cbits_get]
theorem code_le (ls : List Nat) (s : Nat) : codeN9 ls s ≤ 1024 * ls.length := by
  unfold codeN9
  split
  · omega
  · exact Nat.le_trans (Nat.div_le_self _ _) (aheadQ_le ls s ls.length)
end Bm

set_option maxHeartbeats 1000000 in
set_option maxRecDepth 100000 in
theorem xcode_any (A : Option Addr) (c : Nat) (ls : List Nat) (s : Nat) (w : World) (hl : ls.length ≤ 1000) (h11 : ∀ x ∈ ls, x ≤ 11) (hs : s < ls.length) (hr : Reads w A (i64s ls)) :
    Calls Tryz.prog 38 #[.slice A ls.length c, .int .i64 (s : Int)] w fun e w' => ∃ u, e = .returned u ∧ w'.ownsRow w.heap.size 3 1 u (ls[s]?.getD 0) (i64s (Bm.cbits ls s)) ∧ Below w.heap.size w w' := by
  obtain ⟨i0, hi, hz0, hz1, hz2⟩ := info_parts info_in
  have Hc := Lib.hid (vcodes_any A c ls w hl h11 hr)
  have hcl := Bm.code_le ls s
  have hget : (i64s (Bm.codesN ls))[s]? = some (.int .i64 (Bm.codeN9 ls s : Int)) := by
    rw [i64s_get? _ _ (by unfold Bm.codesN; simpa using hs)]
    simp [Bm.codesN]
  have h11s : ls[s]?.getD 0 ≤ 11 := by
    rw [List.getElem?_eq_getElem hs, Option.getD_some]
    exact h11 _ (List.getElem_mem hs)
  obtain ⟨g0, off, rfl, hcell⟩ := reads_i9 hr (by omega)
  have hx : ∀ W, Below w.heap.size w W → W.cell? ⟨g0, off + s, none⟩ = some (.int .i64 (ls[s]?.getD 0 : Int)) := fun W hb => by
    have h1 := reads_on hr hb
    obtain ⟨g1, off1, e, hc1⟩ := reads_i9 h1 (by omega)
    injection e with e
    injection e with e1 e2
    subst e1 e2
    rw [hc1 s hs, List.getElem?_eq_getElem hs, Option.getD_some]
  have Hx := Lib.hid hx
  have Hget := Lib.hid hget
  have Hcb := Lib.hid (fun k h => Bm.cbits_take ls s k h)
  have hcn := Lib.hid (Bm.cbits_length ls s)
  clear hr hcell hget hx h11
  generalize Bm.codeN9 ls s = C at *
  generalize Bm.cbits ls s = cb at *
  generalize ls[s]?.getD 0 = n at *
  go_enter Tryz.func38, Tryz.ntmps38
  go_wp2_with fail
  refine Hc.out.mono ?_
  rintro e w1 ⟨g, rfl, hg, hrow, hb1⟩
  have d1 := (hrow.cell s).trans Hget.out
  have d2 := Hx.out w1 hb1
  have Hb1 := Lib.hid hb1
  clear hb1 hrow Hget Hx Hc
  go_wp2
  go_loopw [5, 7] (fun u i wr => ∃ k : Nat, k ≤ n ∧ i = .int .i64 ((n : Int) - 1 - (k : Int)) ∧ Hid (wr.ownsRow w.heap.size 3 1 u k (i64s (cb.take k))) ∧ Hid (Below w.heap.size w wr)) (fun _ i _ => (intOf i + 1).toNat)
  case atStart => exact ⟨0, by omega, by simp, Lib.hid (by rw [List.take_zero]; exact World.ownsRow_nil _ _ _ _), Hb1⟩
  case round =>
    obtain ⟨k, hk, rfl, hown, hbel⟩ := hrel
    by_cases hkn : k < n
    · obtain ⟨q, hq⟩ : ∃ q, n = q + k + 1 := ⟨n - k - 1, by omega⟩
      have e1 : (n : Int) - 1 - (k : Int) = (q : Int) := by omega
      rw [e1]
      have ht := Hcb.out k hkn
      rw [show n - 1 - k = q by omega] at ht
      have Hsz := Lib.hid (hsize_any (q : Int) wr (by omega))
      rw [Int.toNat_natCast] at Hsz
      have hP : 0 < 2 ^ q := Nat.two_pow_pos q
      have hP2 : 2 ^ q ≤ 2048 := by
        have h2 : 2 ^ q ≤ 2 ^ 11 := Nat.pow_le_pow_right (by omega) (by omega)
        have h3 : (2 : Nat) ^ 11 = 2048 := by decide
        omega
      have Hq := Lib.hid hq
      have Ht := Lib.hid ht
      clear ht hq
      generalize 2 ^ q = P at *
      have hd0 : (C : Int) / (P : Int) = ((C / P : Nat) : Int) := by simp
      have hd1 : C / P ≤ C := Nat.div_le_self _ _
      have hd2 : ((C / P : Nat) : Int) % 2 = ((C / P % 2 : Nat) : Int) := by omega
      have hPz : ((P : Int) == 0) = false := by rw [beq_eq_false_iff_ne]; omega
      have hd3 : C / P % 2 ≤ 1 := by omega
      generalize C / P % 2 = y at *
      generalize C / P = x at *
      go_wp2_with fail
      refine Hsz.out.mono ?_
      rintro e w' ⟨rfl, rfl⟩
      go_wp2_with (at_builtin; refine wpList_append_own _ rfl _ _ 33 rfl w.heap.size 3 i0 (.int .i64 0) 1 8 Tryz.underlying33 hi hz0 hz1 hz2 rfl (by decide) _ _ _ rfl (hown.out.alloc _) ⟨wr.heap.size, 0, none⟩ 1 1 [.int .i64 (y : Int)] rfl rfl ?c1 ?c2 ?c3 ?c4 ?c5 ?_)
      case c1 =>
        intro j u hj
        match j, hj with
        | 0, hj => simp at hj; subst hj; simp [Addr.add]
      case c2 => intro u hu; simp at hu; subst hu; rfl
      case c3 => unfold maxLen; omega
      case c4 => omega
      case c5 => have := hbel.out.size; simp; omega
      intro u' w2 hown2 hgr2 _
      have hbel2 : Below w.heap.size w w2 := (hbel.out.alloc hbel.out.size _).grown hgr2 (by have := hbel.out.size; simp; omega) (fun x e => (hown.out.lt x e).1)
      have e : i64s (cb.take k) ++ [Value.int .i64 (y : Int)] = i64s (cb.take (k + 1)) := by rw [Ht.out]; simp [i64s]
      rw [e] at hown2
      have Hown2 := Lib.hid hown2
      have Hbel2 := Lib.hid hbel2
      clear hown2 hbel2 hgr2 e hown hbel
      go_wp2
      go_roundw
      case rel => exact ⟨k + 1, by omega, by have hq := Hq.out; congr 1; omega, Hown2, Hbel2⟩
      case measure => simp [intOf]
    · obtain rfl : k = n := by omega
      have e1 : (k : Int) - 1 - (k : Int) = -1 := by omega
      rw [e1]
      go_wp2
      go_ret
      exact ⟨_, rfl, by have h := hown.out; rwa [List.take_of_length_le (by rw [hcn.out]; exact Nat.le_refl _)] at h, hbel.out⟩

/-- A string and true, or nothing and false. -/
def strV : Option (List Nat) → Value
  | none => .tuple #[.string (strOf []), .bool false]
  | some s => .tuple #[.string (strOf s), .bool true]
end Go.Proofs.YtgcfdjgfnagmjaaGreat

namespace Go.Proofs.YtgcfdjgfnagmjaaGreat
open Go.RowKit

theorem prefix_take (l cs : List Nat) (h : cs.length ≤ l.length) (k : Nat) (hk : k < cs.length) : l.take (k + 1) = cs.take (k + 1) ↔ l.take k = cs.take k ∧ l[k] = cs[k] := by
  rw [List.take_succ_eq_append_getElem hk, List.take_succ_eq_append_getElem (show k < l.length by omega)]
  constructor
  · intro e
    have h1 := List.append_inj' e rfl
    exact ⟨h1.1, by simpa using h1.2⟩
  · rintro ⟨h1, h2⟩
    rw [h1, h2]
theorem prefix_iff (l cs : List Nat) : cs <+: l ↔ cs.length ≤ l.length ∧ l.take cs.length = cs.take cs.length := by
  rw [List.take_length]
  constructor
  · rintro ⟨t, rfl⟩
    exact ⟨by simp, by rw [List.take_left']; rfl⟩
  · rintro ⟨_, h⟩
    exact ⟨l.drop cs.length, (congrArg (· ++ l.drop cs.length) h.symm).trans (List.take_append_drop cs.length l)⟩

set_option maxHeartbeats 1000000 in
set_option maxRecDepth 100000 in
theorem xbegins_any (A B : Option Addr) (c d : Nat) (l cs : List Nat) (w : World) (hl : l.length ≤ 1000000) (hcl : cs.length ≤ 1000000) (hr : Reads w A (i64s l)) (hs : Reads w B (i64s cs)) :
    Calls Tryz.prog 40 #[.slice A l.length c, .slice B cs.length d] w fun e w' => e = .returned (.bool (decide (cs <+: l))) ∧ ∃ m, w' = w.drewN m := by
  obtain ⟨r, hres⟩ : ∃ r, r = decide (cs <+: l) := ⟨_, rfl⟩
  rw [← hres]
  have Hres := Lib.hid hres
  have Hr := Lib.hid hr
  have Hs := Lib.hid hs
  clear hres hr hs
  by_cases hlen : l.length < cs.length
  · have d1 : decide (l.length < cs.length) = true := decide_eq_true hlen
    have hx : false = r := by rw [Hres.out]; exact (decide_eq_false (fun h => by have := ((prefix_iff l cs).1 h).1; omega)).symm
    have Hx := Lib.hid hx
    clear hx Hres
    go_enter Tryz.func40, Tryz.ntmps40
    go_wp2
    go_ret
    exact ⟨congrArg (fun x => Ending.returned (Value.bool x)) Hx.out, 0, rfl⟩
  · have d1 : decide (l.length < cs.length) = false := decide_eq_false hlen
    have Hno : Hid (∀ k, k < cs.length → l.take (k + 1) ≠ cs.take (k + 1) → false = r) := Lib.hid (fun k hk hne => by
      rw [Hres.out]
      refine (decide_eq_false (fun h => hne ?_)).symm
      have h2 := ((prefix_iff l cs).1 h).2
      have h3 := congrArg (List.take (k + 1)) h2
      rwa [List.take_take, List.take_take, Nat.min_eq_left (by omega)] at h3)
    have Hyes : Hid (l.take cs.length = cs.take cs.length → true = r) := Lib.hid (fun h => by rw [Hres.out]; exact (decide_eq_true ((prefix_iff l cs).2 ⟨by omega, h⟩)).symm)
    have Hst := Lib.hid (fun k hk => prefix_take l cs (by omega) k hk)
    clear Hres
    go_enter Tryz.func40, Tryz.ntmps40
    go_wp2
    go_loopw [5] (fun i wr => ∃ k m : Nat, k ≤ cs.length ∧ i = .int .i64 (k : Int) ∧ Hid (l.take k = cs.take k) ∧ Hid (wr = w.drewN m)) (fun i _ => cs.length - (intOf i).toNat)
    case atStart => exact ⟨0, 0, by omega, rfl, Lib.hid (by simp), Lib.hid rfl⟩
    case round =>
      obtain ⟨k, m, hk, rfl, ht, hw⟩ := hrel
      have hwr := hw.out
      subst hwr
      by_cases hkc : k < cs.length
      · have hb : Below w.heap.size w (w.drewN m) := below_drewN (Below.refl _ _) m
        obtain ⟨g, off, rfl, hc⟩ := reads_i9 Hr.out (by omega)
        obtain ⟨g1, off1, rfl, hc1⟩ := reads_i9 Hs.out (by omega)
        have k0 := hc k (by omega)
        have k1 := hc1 k hkc
        have hst := Hst.out k hkc
        have hno := Hno.out k hkc
        have hkl : k < l.length := by omega
        have Hst2 := Lib.hid hst
        have Hno2 := Lib.hid hno
        clear hc hc1 hst hno
        generalize l[k]'hkl = x at *
        generalize cs[k]'hkc = y at *
        by_cases hxy : x = y
        · subst hxy
          have hd : ((x : Int) != (x : Int)) = false := by simp
          have Ht2 := Lib.hid (Hst2.out.2 ⟨ht.out, rfl⟩)
          clear Hst2 Hno2
          go_wp2_with fail
          go_quiet (fail)
          go_wp2
          go_roundw
          case rel => exact ⟨k + 1, _, by omega, by go_num, Ht2, Lib.hid rfl⟩
          case measure => simp [intOf]; omega
        · have hd : ((x : Int) != (y : Int)) = true := by rw [bne_iff_ne]; omega
          have hx := Hno2.out (fun h => hxy (Hst2.out.1 h).2)
          have Hx := Lib.hid hx
          clear Hst2 Hno2 hx
          go_wp2_with fail
          go_quiet (fail)
          go_wp2
          go_ret
          exact ⟨congrArg (fun x => Ending.returned (Value.bool x)) Hx.out, _, World.drewN_drewN _ _ _⟩
      · obtain rfl : k = cs.length := by omega
        have hx := Hyes.out ht.out
        have Hx := Lib.hid hx
        clear hx
        go_wp2
        go_ret
        exact ⟨congrArg (fun x => Ending.returned (Value.bool x)) Hx.out, m, rfl⟩

end Go.Proofs.YtgcfdjgfnagmjaaGreat

namespace Go.Proofs.YtgcfdjgfnagmjaaGreat.Bm

/-- Into a sorted list; sorted. -/
def ins (x : Nat) : List Nat → List Nat
  | [] => [x]
  | y :: l => if x ≤ y then x :: y :: l else y :: ins x l
def isort : List Nat → List Nat
  | [] => []
  | x :: l => ins x (isort l)
theorem ins_le {x y : Nat} {l : List Nat} (h : x ≤ y) : ins x (y :: l) = x :: y :: l := by rw [ins, if_pos h]
theorem ins_gt {x y : Nat} {l : List Nat} (h : ¬ x ≤ y) : ins x (y :: l) = y :: ins x l := by rw [ins, if_neg h]
theorem ins_comm (x y : Nat) : ∀ l, ins x (ins y l) = ins y (ins x l)
  | [] => by
    show ins x [y] = ins y [x]
    by_cases h1 : x ≤ y
    · by_cases h2 : y ≤ x
      · obtain rfl : x = y := by omega
        rfl
      · rw [ins_le h1, ins_gt h2]; rfl
    · rw [ins_gt h1, ins_le (by omega)]; rfl
  | z :: l => by
    by_cases h1 : x ≤ z <;> by_cases h2 : y ≤ z
    · rw [ins_le h1, ins_le h2]
      by_cases h3 : x ≤ y
      · by_cases h4 : y ≤ x
        · obtain rfl : x = y := by omega
          rfl
        · rw [ins_le h3, ins_gt h4, ins_le h2]
      · rw [ins_gt h3, ins_le (show y ≤ x by omega), ins_le h1]
    · rw [ins_gt h2, ins_le h1, ins_le h1, ins_gt (show ¬ y ≤ x by omega), ins_gt h2]
    · rw [ins_gt h1, ins_le h2, ins_le h2, ins_gt (show ¬ x ≤ y by omega), ins_gt h1]
    · rw [ins_gt h1, ins_gt h2, ins_gt h1, ins_gt h2, ins_comm x y l]
theorem isort_perm_eq {a b : List Nat} (h : a.Perm b) : isort a = isort b := by
  induction h with
  | nil => rfl
  | cons x _ ih => simp only [isort, ih]
  | swap x y l => simp only [isort]; exact ins_comm y x (isort l)
  | trans _ _ ih1 ih2 => exact ih1.trans ih2
theorem ins_perm (x : Nat) : ∀ l, (ins x l).Perm (x :: l)
  | [] => List.Perm.refl _
  | y :: l => by
    unfold ins
    split
    · exact List.Perm.refl _
    · exact ((ins_perm x l).cons y).trans (List.Perm.swap x y l)
theorem isort_perm : ∀ l, (isort l).Perm l
  | [] => List.Perm.refl _
  | x :: l => (ins_perm x (isort l)).trans ((isort_perm l).cons x)
theorem isort_length (l : List Nat) : (isort l).length = l.length := (isort_perm l).length_eq
theorem ins_sorted (x : Nat) : ∀ l : List Nat, l.Pairwise (· ≤ ·) → (ins x l).Pairwise (· ≤ ·)
  | [], _ => by simp [ins]
  | y :: l, h => by
    unfold ins
    rw [List.pairwise_cons] at h
    split
    · next hxy =>
      rw [List.pairwise_cons]
      refine ⟨fun z hz => ?_, List.pairwise_cons.2 h⟩
      rcases List.mem_cons.1 hz with rfl | hz
      · exact hxy
      · exact Nat.le_trans hxy (h.1 z hz)
    · next hxy =>
      rw [List.pairwise_cons]
      refine ⟨fun z hz => ?_, ins_sorted x l h.2⟩
      rcases List.mem_cons.1 ((ins_perm x l).mem_iff.1 hz) with rfl | hz
      · omega
      · exact h.1 z hz
theorem isort_sorted : ∀ l, (isort l).Pairwise (· ≤ ·)
  | [] => by simp [isort]
  | x :: l => ins_sorted x _ (isort_sorted l)
theorem ins_least (x : Nat) (l : List Nat) (h : ∀ y ∈ l, x ≤ y) : ins x l = x :: l := by
  cases l with
  | nil => rfl
  | cons y l => unfold ins; rw [if_pos (h y List.mem_cons_self)]
/-- Two lightest at a time, of a sorted list. -/
def hcost : Nat → List Nat → Nat
  | 0, _ => 0
  | f + 1, a :: b :: l => (a + b) + hcost f (ins (a + b) l)
  | _ + 1, _ => 0
/-- Of any list: the least cost. -/
def hbest (l : List Nat) : Nat := hcost l.length (isort l)
theorem hbest_perm {a b : List Nat} (h : a.Perm b) : hbest a = hbest b := by
  unfold hbest
  rw [isort_perm_eq h, h.length_eq]
/-- A step: the two lightest, wherever the rest stands. -/
theorem hbest_step (a b : Nat) (l : List Nat) (ha : a ≤ b) (hb : ∀ x ∈ l, b ≤ x) : hbest (a :: b :: l) = (a + b) + hbest (l ++ [a + b]) := by
  have hs : isort (a :: b :: l) = a :: b :: isort l := by
    simp only [isort]
    rw [ins_least b (isort l) (fun y hy => hb y ((isort_perm l).mem_iff.1 hy))]
    exact ins_least a _ (fun y hy => by
      rcases List.mem_cons.1 hy with rfl | hy
      · exact ha
      · have := hb y ((isort_perm l).mem_iff.1 hy); omega)
  have h2 : hbest (l ++ [a + b]) = hcost (l.length + 1) (ins (a + b) (isort l)) := by
    rw [hbest_perm (List.perm_append_comm (l₁ := l) (l₂ := [a + b]))]
    rfl
  rw [h2]
  unfold hbest
  rw [hs]
  rfl
theorem hbest_few (l : List Nat) (h : l.length ≤ 1) : hbest l = 0 := by
  rcases l with _ | ⟨a, _ | ⟨b, l⟩⟩
  · rfl
  · rfl
  · simp at h
/-- Weights and lengths: the cost, the parts of 2 to the power M. -/
def wcost (ps : List (Nat × Nat)) : Nat := (ps.map fun p => p.1 * p.2).sum
def kraft (M : Nat) (ps : List (Nat × Nat)) : Nat := (ps.map fun p => 2 ^ (M - p.2)).sum
theorem wcost_perm {a b : List (Nat × Nat)} (h : a.Perm b) : wcost a = wcost b := (h.map _).sum_nat
theorem kraft_perm (M : Nat) {a b : List (Nat × Nat)} (h : a.Perm b) : kraft M a = kraft M b := (h.map _).sum_nat
theorem wcost_cons (p : Nat × Nat) (l : List (Nat × Nat)) : wcost (p :: l) = p.1 * p.2 + wcost l := by simp [wcost]
theorem kraft_cons (M : Nat) (p : Nat × Nat) (l : List (Nat × Nat)) : kraft M (p :: l) = 2 ^ (M - p.2) + kraft M l := by simp [kraft]
/-- One level deeper: twice the parts. -/
theorem kraft_up (M : Nat) : ∀ (l : List (Nat × Nat)), (∀ p ∈ l, p.2 ≤ M) → kraft (M + 1) l = 2 * kraft M l
  | [], _ => rfl
  | p :: l, h => by
    have h1 := h p List.mem_cons_self
    rw [kraft_cons, kraft_cons, kraft_up M l (fun q hq => h q (List.mem_cons_of_mem _ hq)), show M + 1 - p.2 = (M - p.2) + 1 by omega, Nat.pow_succ]
    omega
/-- How many are of the greatest length: as many as the parts, up to twice something. -/
theorem kraft_odd (M : Nat) : ∀ (l : List (Nat × Nat)), (∀ p ∈ l, p.2 ≤ M) → kraft M l % 2 = (l.countP fun p => decide (p.2 = M)) % 2
  | [], _ => rfl
  | p :: l, h => by
    have h1 := h p List.mem_cons_self
    have ih := kraft_odd M l (fun q hq => h q (List.mem_cons_of_mem _ hq))
    rw [kraft_cons, List.countP_cons]
    by_cases he : p.2 = M
    · simp only [he, Nat.sub_self, Nat.pow_zero, decide_true, if_true]
      omega
    · simp only [he, decide_false, Bool.false_eq_true, if_false]
      obtain ⟨q, hq⟩ : ∃ q, M - p.2 = q + 1 := ⟨M - p.2 - 1, by omega⟩
      rw [hq, Nat.pow_succ]
      omega
/-- Where lengths are too great by one level for all, they are whole one level above. -/
theorem kraft_down (M : Nat) (l : List (Nat × Nat)) (h : ∀ p ∈ l, p.2 ≤ M) (hk : kraft (M + 1) l = 2 ^ (M + 1)) : kraft M l = 2 ^ M := by
  have h1 := kraft_up M l h
  rw [hk, Nat.pow_succ] at h1
  omega
/-- Of any list that has an element with this, and another list of weights with the least one: the pair put in front, at no more cost. -/
theorem front (M a : Nat) (ps : List (Nat × Nat)) (ha : a ∈ ps.map (·.1)) (hmin : ∀ p ∈ ps, a ≤ p.1) (hM : ∀ p ∈ ps, p.2 ≤ M) (hex : ∃ p ∈ ps, p.2 = M) :
    ∃ R, (ps.map (·.1)).Perm (a :: R.map (·.1)) ∧ kraft M ps = 1 + kraft M R ∧ a * M + wcost R ≤ wcost ps ∧ (∀ p ∈ R, p.2 ≤ M) ∧ R.length + 1 = ps.length := by
  obtain ⟨p, hp, rfl⟩ := List.mem_map.1 ha
  obtain ⟨s, t, rfl⟩ := List.append_of_mem hp
  have hperm : (s ++ p :: t).Perm (p :: (s ++ t)) := List.perm_middle
  by_cases hpM : p.2 = M
  · refine ⟨s ++ t, hperm.map _, ?_, ?_, fun q hq => hM q (hperm.mem_iff.2 (List.mem_cons_of_mem _ hq)), by simp; omega⟩
    · rw [kraft_perm M hperm, kraft_cons, hpM, Nat.sub_self, Nat.pow_zero]
    · rw [wcost_perm hperm, wcost_cons, hpM]; exact Nat.le_refl _
  · obtain ⟨q, hq, hqM⟩ := hex
    have hq2 : q ∈ s ++ t := by
      rcases List.mem_cons.1 (hperm.mem_iff.1 hq) with rfl | h
      · exact absurd hqM hpM
      · exact h
    obtain ⟨u, v, e⟩ := List.append_of_mem hq2
    have hperm2 : (s ++ p :: t).Perm (p :: q :: (u ++ v)) := hperm.trans (((e ▸ List.Perm.refl (s ++ t) : (s ++ t).Perm (u ++ q :: v)).trans List.perm_middle).cons p)
    have hpl := hM p hp
    have hpq := hmin q hq
    refine ⟨(q.1, p.2) :: (u ++ v), ?_, ?_, ?_, ?_, ?_⟩
    · exact hperm2.map _
    · rw [kraft_perm M hperm2, kraft_cons, kraft_cons, kraft_cons, hqM, Nat.sub_self, Nat.pow_zero]
      dsimp only
      omega
    · rw [wcost_perm hperm2, wcost_cons, wcost_cons, wcost_cons, hqM]
      dsimp only
      obtain ⟨d, hd⟩ : ∃ d, q.1 = p.1 + d := ⟨q.1 - p.1, by omega⟩
      obtain ⟨g, hg⟩ : ∃ g, M = p.2 + g := ⟨M - p.2, by omega⟩
      have h1 : p.1 * M + q.1 * p.2 ≤ p.1 * p.2 + q.1 * M := by
        rw [hd, hg, Nat.add_mul, Nat.add_mul, Nat.mul_add, Nat.mul_add]
        omega
      omega
    · intro r hr
      rcases List.mem_cons.1 hr with rfl | hr
      · exact hpl
      · exact hM r (hperm2.mem_iff.2 (List.mem_cons_of_mem _ (List.mem_cons_of_mem _ hr)))
    · have := hperm2.length_eq
      simp at this ⊢
      omega
/-- No whole lengths cost less. -/
theorem opt : ∀ (n M : Nat) (ps : List (Nat × Nat)), ps.length + M ≤ n → (∀ p ∈ ps, p.2 ≤ M) → kraft M ps = 2 ^ M → hbest (ps.map (·.1)) ≤ wcost ps
  | 0, M, ps, hn, _, _ => by
    have : ps.length = 0 := by omega
    rw [List.eq_nil_of_length_eq_zero this]
    exact Nat.zero_le _
  | n + 1, M, ps, hn, hM, hk => by
    by_cases hlen : ps.length ≤ 1
    · rw [hbest_few _ (by simpa using hlen)]; exact Nat.zero_le _
    · rcases M with _ | M
      · have : ∀ l : List (Nat × Nat), kraft 0 l = l.length := fun l => by
          induction l with
          | nil => rfl
          | cons p l ih => rw [kraft_cons, ih, Nat.zero_sub, List.length_cons]; omega
        rw [this] at hk
        omega
      · by_cases hex : ∃ p ∈ ps, p.2 = M + 1
        · -- two of the greatest length
          have hs : ∃ a b l, isort (ps.map (·.1)) = a :: b :: l := by
            have h1 := isort_length (ps.map (·.1))
            rw [List.length_map] at h1
            rcases hsx : isort (ps.map (·.1)) with _ | ⟨a, _ | ⟨b, l⟩⟩
            · rw [hsx, List.length_nil] at h1; omega
            · rw [hsx, List.length_singleton] at h1; omega
            · exact ⟨a, b, l, hsx⟩
          obtain ⟨a, b, l, hs⟩ := hs
          have hperm := (isort_perm (ps.map (·.1)))
          have hsort := isort_sorted (ps.map (·.1))
          rw [hs] at hperm hsort
          rw [List.pairwise_cons, List.pairwise_cons] at hsort
          obtain ⟨ha, hb, _⟩ := hsort
          have hmina : ∀ p ∈ ps, a ≤ p.1 := fun p hp => by
            have h1 := hperm.mem_iff.2 (List.mem_map_of_mem (f := (·.1)) hp)
            rcases List.mem_cons.1 h1 with h1 | h1
            · omega
            · exact ha _ h1
          obtain ⟨R, hR1, hR2, hR3, hR4, hR5⟩ := front (M + 1) a ps (hperm.mem_iff.1 List.mem_cons_self) hmina hM hex
          have hRp : (b :: l).Perm (R.map (·.1)) := (List.perm_cons a).1 (hperm.trans hR1)
          have hex2 : ∃ p ∈ R, p.2 = M + 1 := by
            have h1 := kraft_odd (M + 1) R hR4
            have h2 : 0 < R.countP fun p => decide (p.2 = M + 1) := by
              rw [hk] at hR2
              have h3 : 2 ^ (M + 1) % 2 = 0 := by rw [Nat.pow_succ]; omega
              omega
            obtain ⟨p, hp, he⟩ := List.countP_pos_iff.1 h2
            exact ⟨p, hp, by simpa using he⟩
          obtain ⟨R2, k1, k2, k3, k4, k5⟩ := front (M + 1) b R (hRp.mem_iff.1 List.mem_cons_self) (fun p hp => by
            have h1 := hRp.mem_iff.2 (List.mem_map_of_mem (f := (·.1)) hp)
            rcases List.mem_cons.1 h1 with h1 | h1
            · omega
            · exact hb _ h1) hR4 hex2
          have hR2p : l.Perm (R2.map (·.1)) := (List.perm_cons b).1 (hRp.trans k1)
          have ih := opt n (M + 1) ((a + b, M) :: R2) (by rw [List.length_cons]; omega) (by
            intro p hp
            rcases List.mem_cons.1 hp with rfl | hp
            · exact Nat.le_succ M
            · exact k4 p hp) (by
            rw [kraft_cons, show M + 1 - M = 1 by omega]
            omega)
          rw [wcost_cons, List.map_cons] at ih
          dsimp only at ih
          have hstep := hbest_step a b l (ha b List.mem_cons_self) hb
          have e1 : hbest (ps.map (·.1)) = hbest (a :: b :: l) := (hbest_perm hperm).symm
          have e2 : hbest (l ++ [a + b]) = hbest ((a + b) :: R2.map (·.1)) := hbest_perm ((List.perm_append_comm (l₁ := l) (l₂ := [a + b])).trans (hR2p.cons (a + b)))
          rw [e1, hstep, e2]
          have h6 : a * (M + 1) + b * (M + 1) = (a + b) * M + (a + b) := by
            rw [← Nat.add_mul, Nat.mul_succ]
          omega
        · have hM2 : ∀ p ∈ ps, p.2 ≤ M := fun p hp => by
            have h1 := hM p hp
            have h2 : p.2 ≠ M + 1 := fun e => hex ⟨p, hp, e⟩
            omega
          exact opt n M ps (by omega) hM2 (kraft_down M ps hM2 hk)
end Go.Proofs.YtgcfdjgfnagmjaaGreat.Bm

namespace Go.Proofs.YtgcfdjgfnagmjaaGreat
open Go.RowKit
namespace Bm
/-- The counts above 0. -/
def posC : List Nat → List Nat
  | [] => []
  | c :: cs => if 0 < c then c :: posC cs else posC cs
/-- Huffman's cost; of one symbol its count. -/
def bestN (cs : List Nat) : Nat := if (posC cs).length = 1 then (posC cs).sum else hbest (posC cs)
/-- The flattest codes' cost. -/
def flatN (cs : List Nat) : Nat := if (posC cs).length = 1 then (posC cs).sum else
  (posC cs).sum * wid ((posC cs).length - 1) - ((isort (posC cs)).reverse.take (2 ^ wid ((posC cs).length - 1) - (posC cs).length)).sum
/-- Lengths that may be answered for counts. -/
structure GoodN (cs ls : List Nat) : Prop where
  len : ls.length = cs.length
  whole : WholeN ls
  just : ∀ i, i < cs.length → (0 < ls[i]?.getD 0 ↔ 0 < cs[i]?.getD 0)
  cost : costN cs ls ≤ max (flatN cs) (bestN cs)
theorem GoodN.fit {cs ls : List Nat} (h : GoodN cs ls) : FitN cs ls := fun i hi h0 => (h.just i hi).2 h0
/-- Counts with their lengths, where there are any. -/
def prs : List Nat → List Nat → List (Nat × Nat)
  | c :: cs, l :: ls => if 0 < l then (c, l) :: prs cs ls else prs cs ls
  | _, _ => []
theorem costN_cons (c l : Nat) (cs ls : List Nat) : costN (c :: cs) (l :: ls) = c * l + costN cs ls := by
  unfold costN
  rw [List.length_cons, List.range_succ_eq_map, List.map_cons, List.sum_cons, List.map_map]
  simp only [List.getElem?_cons_zero, Option.getD_some]
  congr 2
theorem prs_all : ∀ (cs ls : List Nat), ls.length = cs.length → (∀ i, i < cs.length → (0 < ls[i]?.getD 0 ↔ 0 < cs[i]?.getD 0)) → (∀ x ∈ ls, x ≤ 11) →
    (prs cs ls).map (·.1) = posC cs ∧ wcost (prs cs ls) = costN cs ls ∧ kraft 11 (prs cs ls) = krN ls ∧ (∀ p ∈ prs cs ls, 0 < p.2 ∧ p.2 ≤ 11) ∧ (prs cs ls).length = someN ls
  | [], [], _, _, _ => by simp [prs, posC, wcost, kraft, krN, someN, costN]
  | [], _ :: _, h, _, _ => by simp at h
  | _ :: _, [], h, _, _ => by simp at h
  | c :: cs, l :: ls, h, hj, h11 => by
    obtain ⟨i1, i2, i3, i4, i5⟩ := prs_all cs ls (by simpa using h) (fun i hi => by
      have := hj (i + 1) (by simpa using hi)
      simpa using this) (fun x hx => h11 x (List.mem_cons_of_mem _ hx))
    have h0 := hj 0 (by simp)
    simp only [List.getElem?_cons_zero, Option.getD_some] at h0
    have hl := h11 l List.mem_cons_self
    rw [costN_cons]
    unfold prs posC krN someN
    rw [List.map_cons, List.sum_cons, List.countP_cons]
    by_cases hp : 0 < l
    · rw [if_pos hp, if_pos (h0.1 hp), List.map_cons, i1, wcost_cons, kraft_cons, i2, i3]
      refine ⟨rfl, rfl, ?_, ?_, ?_⟩
      · unfold krN partL
        rw [if_neg (by omega)]
      · intro p hm
        rcases List.mem_cons.1 hm with rfl | hm
        · exact ⟨hp, hl⟩
        · exact i4 p hm
      · rw [List.length_cons, i5, if_pos (decide_eq_true hp)]
        rfl
    · have hl0 : l = 0 := by omega
      subst hl0
      rw [if_neg hp, if_neg (fun h => hp (h0.2 h)), i2, i3, i5]
      refine ⟨i1, by omega, ?_, i4, ?_⟩
      · unfold krN partL
        simp
      · unfold someN
        simp
/-- No whole lengths cost less than Huffman's. -/
theorem best_le (cs ls : List Nat) (h : GoodN cs ls) : bestN cs ≤ costN cs ls := by
  obtain ⟨i1, i2, i3, i4, i5⟩ := prs_all cs ls h.len h.just h.whole.2.1
  have hw := h.whole.2.2
  unfold bestN
  rw [← i1, ← i2, List.length_map]
  generalize prs cs ls = ps at *
  split
  · next h1 =>
    obtain ⟨p, rfl⟩ := List.length_eq_one_iff.1 h1
    have h2 := (i4 p (by simp)).1
    have := Nat.mul_le_mul_left p.1 h2
    simp [wcost]
    omega
  · next h1 => exact opt _ 11 ps (Nat.le_refl _) (fun p hp => (i4 p hp).2) (by rw [i3]; omega)
/-- Three counts' lengths. -/
theorem three_fin : ∀ a b c : Fin 12, (decide (krN [a.1, b.1, c.1] = 2048) && decide (costN [5, 2, 1] [a.1, b.1, c.1] ≤ 11) && decide (0 < a.1) && decide (0 < b.1) && decide (0 < c.1)) = true → (a.1 == 1 && b.1 == 2 && c.1 == 2) = true := by decide +kernel
theorem three_lens (a : Nat) (ha : a < 12) (b : Nat) (hb : b < 12) (c : Nat) (hc : c < 12) (h1 : krN [a, b, c] = 2048) (h2 : costN [5, 2, 1] [a, b, c] ≤ 11) (h3 : 0 < a) (h4 : 0 < b) (h5 : 0 < c) : a = 1 ∧ b = 2 ∧ c = 2 := by
  have h := three_fin ⟨a, ha⟩ ⟨b, hb⟩ ⟨c, hc⟩ (by simp only [h1, h2, h3, h4, h5, decide_true, Bool.and_self])
  simpa [and_assoc] using h
theorem good_521 (ls : List Nat) (h : GoodN [5, 2, 1] ls) : ls = [1, 2, 2] := by
  have hl := h.len
  match ls, hl with
  | [a, b, c], _ =>
    have h11 := h.whole.2.1
    have hc := h.cost
    have h0 := h.just 0 (by simp)
    have h1 := h.just 1 (by simp)
    have h2 := h.just 2 (by simp)
    simp at h0 h1 h2
    have hm : max (flatN [5, 2, 1]) (bestN [5, 2, 1]) = 11 := by decide +kernel
    rw [hm] at hc
    have hs : someN [a, b, c] = 3 := by simp [someN, h0, h1, h2]
    have hk : krN [a, b, c] = 2048 := by have := h.whole.2.2; omega
    have ha := h11 a (by simp)
    have hb := h11 b (by simp)
    have hcc := h11 c (by simp)
    obtain ⟨rfl, rfl, rfl⟩ := three_lens a (by omega) b (by omega) c (by omega) hk hc h0 h1 h2
    rfl
theorem whole_122 : WholeI [1, 2, 2] := by decide +kernel
theorem codes_122 : codesN [1, 2, 2] = [0, 2, 3] := by decide +kernel
end Bm
namespace Bm
instance (cs ls : List Nat) : Decidable (FitN cs ls) := by unfold FitN; exact inferInstance
end Bm
/-- What Cost answers. -/
def costV (cs ls : List Nat) : Value := .tuple #[.int .i64 ((if Bm.FitN cs ls then Bm.costN cs ls else 0 : Nat) : Int), .bool (decide (Bm.FitN cs ls))]

end Go.Proofs.YtgcfdjgfnagmjaaGreat

namespace Go.Proofs.YtgcfdjgfnagmjaaGreat
open Go.RowKit
namespace Bm
def costTo (cs ls : List Nat) (k : Nat) : Nat := ((List.range k).map fun i => cs[i]?.getD 0 * ls[i]?.getD 0).sum
theorem costTo_succ (cs ls : List Nat) (k : Nat) : costTo cs ls (k + 1) = costTo cs ls k + cs[k]?.getD 0 * ls[k]?.getD 0 := by
  unfold costTo
  rw [List.range_succ, List.map_append, List.sum_append_nat]
  simp
theorem costTo_all (cs ls : List Nat) : costTo cs ls cs.length = costN cs ls := rfl
theorem costTo_le (cs ls : List Nat) (hc : ∀ x ∈ cs, x ≤ 1048576) (hl : ∀ x ∈ ls, x ≤ 11) : ∀ k, costTo cs ls k ≤ 11534336 * k
  | 0 => by simp [costTo]
  | k + 1 => by
    have ih := costTo_le cs ls hc hl k
    rw [costTo_succ]
    have h1 : cs[k]?.getD 0 ≤ 1048576 := by
      cases h : cs[k]? with
      | none => simp
      | some v => exact hc v (List.mem_of_getElem? h)
    have h2 : ls[k]?.getD 0 ≤ 11 := by
      cases h : ls[k]? with
      | none => simp
      | some v => exact hl v (List.mem_of_getElem? h)
    have h3 := Nat.mul_le_mul h1 h2
    omega
end Bm
end Go.Proofs.YtgcfdjgfnagmjaaGreat

namespace Go.Proofs.YtgcfdjgfnagmjaaGreat
open Go.RowKit
namespace Bm
def sizedB (log : Int) : Bool := decide (5 ≤ log ∧ log ≤ 9)
end Bm
theorem wrap_in (x : Int) (h0 : -9223372036854775808 ≤ x) (h1 : x ≤ 9223372036854775807) : wrap64 x = x := by unfold wrap64; omega
namespace Bm
theorem sum_nn (l : List Int) (h : ∀ x ∈ l, 0 ≤ x) : 0 ≤ l.sum := by
  induction l with
  | nil => simp
  | cons a l ih =>
    have h1 := ih (fun x hx => h x (List.mem_cons_of_mem _ hx))
    have h2 := h a List.mem_cons_self
    rw [List.sum_cons]; omega
theorem sum_take_le (l : List Int) (k : Nat) (h : ∀ x ∈ l, 0 ≤ x) : (l.take k).sum ≤ l.sum := by
  have h1 := sum_nn (l.drop k) (fun x hx => h x (List.mem_of_mem_drop hx))
  have h2 : l.sum = (l.take k).sum + (l.drop k).sum := by
    conv => lhs; rw [← List.take_append_drop k l]
    rw [List.sum_append_int]
  omega
theorem mem_le_sumI (l : List Int) (h : ∀ x ∈ l, 0 ≤ x) (x : Int) (hx : x ∈ l) : x ≤ l.sum := by
  induction l with
  | nil => cases hx
  | cons a l ih =>
    have h1 := sum_nn l (fun x hx => h x (List.mem_cons_of_mem _ hx))
    have h2 := h a List.mem_cons_self
    rw [List.sum_cons]
    rcases List.mem_cons.1 hx with rfl | hx
    · omega
    · have := ih (fun x hx => h x (List.mem_cons_of_mem _ hx)) hx; omega
theorem pow_log (b : Nat) (h5 : 5 ≤ b) (h9 : b ≤ 9) : 32 ≤ 2 ^ b ∧ 2 ^ b ≤ 512 :=
  ⟨Nat.pow_le_pow_right (n := 2) (i := 5) (by omega) h5, Nat.pow_le_pow_right (n := 2) (j := 9) (by omega) h9⟩
end Bm

end Go.Proofs.YtgcfdjgfnagmjaaGreat

namespace Go.Proofs.YtgcfdjgfnagmjaaGreat
open Go.RowKit
instance (l : List Int) : Decidable (Bm.Right l) := by unfold Bm.Right; exact inferInstance
end Go.Proofs.YtgcfdjgfnagmjaaGreat

namespace Go.Proofs.YtgcfdjgfnagmjaaGreat
open Go.RowKit

/-- Block g, the call's own, holds the numbers from place off on; cap of them have room. -/
def Seg (w : World) (base g off cap : Nat) (l : List Nat) : Prop := base ≤ g ∧ cap ≤ maxLen ∧ ∃ pre post : List Value, pre.length = off ∧ l.length + post.length = cap ∧ Row w g 3 (pre ++ (i64s l ++ post))
section
variable {w w' : World} {base g off cap : Nat} {l : List Nat}
theorem Seg.lt (h : Seg w base g off cap l) : g < w.heap.size := by
  obtain ⟨_, _, _, _, _, _, h⟩ := h
  exact h.lt
theorem Seg.fits (h : Seg w base g off cap l) : l.length ≤ cap ∧ cap ≤ maxLen := by
  obtain ⟨_, h2, _, _, _, h4, _⟩ := h
  exact ⟨by omega, h2⟩
theorem Seg.keep (h : Seg w base g off cap l) (hb : w'.heap[g]? = w.heap[g]?) : Seg w' base g off cap l := by
  obtain ⟨h1, h2, pre, post, h3, h4, h5⟩ := h
  exact ⟨h1, h2, pre, post, h3, h4, h5.keep hb⟩
theorem Seg.alloc (h : Seg w base g off cap l) (o : Obj) : Seg (w.alloc o) base g off cap l := h.keep (Below.heap_alloc w o g h.lt)
theorem Seg.cell (h : Seg w base g off cap l) (j : Nat) (hj : j < l.length) : w.cell? ⟨g, off + j, none⟩ = some (.int .i64 (l[j] : Int)) := by
  obtain ⟨_, _, pre, post, rfl, _, h5⟩ := h
  rw [h5.cell, List.getElem?_append_right (Nat.le_add_right _ _), Nat.add_sub_cancel_left, List.getElem?_append_left (by rw [i64s_length]; exact hj), i64s_get? l j hj]
theorem Seg.free (h : Seg w base g off cap l) (i : Nat) : w.frozen? ⟨g, i, none⟩ = false := by
  obtain ⟨_, _, _, _, _, _, h5⟩ := h
  exact h5.free i
theorem Seg.set (h : Seg w base g off cap l) (j : Nat) (hj : j < l.length) (z : Nat) : Seg (w.setCell ⟨g, off + j, none⟩ (.int .i64 (z : Int))) base g off cap (l.set j z) := by
  obtain ⟨h1, h2, pre, post, rfl, h4, h5⟩ := h
  refine ⟨h1, h2, pre, post, rfl, by rw [List.length_set]; exact h4, ?_⟩
  have h6 := h5.set_ (pre.length + j) (.int .i64 (z : Int))
  rw [List.set_append_right _ _ (Nat.le_add_right _ _), Nat.add_sub_cancel_left, List.set_append_left _ _ (by rw [i64s_length]; exact hj)] at h6
  rw [show i64s (l.set j z) = (i64s l).set j (.int .i64 (z : Int)) by simp [i64s, List.map_set]]
  exact h6
theorem Seg.below (h : Seg w base g off cap l) (hb : Below w.heap.size w w') : Seg w' base g off cap l := h.keep (hb.block g h.lt)
theorem Seg.cut {a b : Nat} (h : Seg w base g off cap (a :: b :: l)) : 2 ≤ cap ∧ Seg w base g (off + 2) (cap - 2) l := by
  obtain ⟨h1, h2, pre, post, rfl, h4, h5⟩ := h
  rw [List.length_cons, List.length_cons] at h4
  refine ⟨by omega, h1, by omega, pre ++ i64s [a, b], post, by simp [i64s], by omega, ?_⟩
  have e : pre ++ (i64s (a :: b :: l) ++ post) = pre ++ i64s [a, b] ++ (i64s l ++ post) := by simp [i64s]
  rw [← e]
  exact h5
theorem Seg.room (h : Seg w base g off cap l) (z : Nat) (hr : l.length + 1 ≤ cap) : Seg (w.setCells g (off + l.length) [.int .i64 (z : Int)]) base g off cap (l ++ [z]) := by
  obtain ⟨h1, h2, pre, post, rfl, h4, h5⟩ := h
  match post, h4, h5 with
  | [], h4, _ => simp at h4; omega
  | y :: post, h4, h5 =>
    rw [List.length_cons] at h4
    refine ⟨h1, h2, pre, post, rfl, by rw [List.length_append]; simp; omega, ?_⟩
    have h6 := h5.set_ (pre.length + l.length) (.int .i64 (z : Int))
    rw [List.set_append_right _ _ (Nat.le_add_right _ _), Nat.add_sub_cancel_left, List.set_append_right _ _ (by rw [i64s_length]; exact Nat.le_refl _), i64s_length, Nat.sub_self, List.set_cons_zero] at h6
    have e : pre ++ (i64s (l ++ [z]) ++ post) = pre ++ (i64s l ++ Value.int .i64 (z : Int) :: post) := by simp [i64s]
    rw [e]
    simpa [World.setCells] using h6
/-- Where there is room for one more, there is a cell that may be written. -/
theorem Seg.spare (h : Seg w base g off cap l) (hr : l.length + 1 ≤ cap) : (w.cell? ⟨g, off + l.length, none⟩).isSome = true := by
  obtain ⟨h1, h2, pre, post, rfl, h4, h5⟩ := h
  rw [h5.cell, List.getElem?_append_right (Nat.le_add_right _ _), Nat.add_sub_cancel_left, List.getElem?_append_right (by rw [i64s_length]; exact Nat.le_refl _), i64s_length, Nat.sub_self]
  match post, h4 with
  | [], h4 => simp at h4; omega
  | y :: post, _ => rfl
end
theorem seg_of_own {w : World} {base n : Nat} {v : Value} {l : List Nat} (h : w.ownsRow base 3 1 v n (i64s l)) (hn : 0 < n) : l.length = n ∧ ∃ g cap, v = .slice (some ⟨g, 0, none⟩) n cap ∧ Seg w base g 0 cap l := by
  have hl : l.length = n := by have := h.1; rw [i64s_length, Nat.mul_one] at this; exact this
  rcases h.2 with ⟨_, h0⟩ | ⟨g, cap, cur, rfl, hb, hg, hnc, hcm, hcs, ht⟩
  · omega
  · rw [Nat.mul_one] at ht hcs
    refine ⟨hl, g, cap, rfl, hb, hcm, [], cur.toList.drop n, rfl, by have hcl : cur.toList.length = cur.size := Array.length_toList; rw [List.length_drop]; omega, ?_⟩
    unfold Row
    rw [List.nil_append, ← ht, List.take_append_drop, Array.toArray_toList]
    exact hg
namespace Bm
theorem posC_append (a b : List Nat) : posC (a ++ b) = posC a ++ posC b := by
  induction a with
  | nil => rfl
  | cons x a ih => rw [List.cons_append, posC, posC, ih]; split <;> rfl
theorem posC_take (cs : List Nat) (k : Nat) (h : k < cs.length) : posC (cs.take (k + 1)) = posC (cs.take k) ++ if 0 < cs[k] then [cs[k]] else [] := by
  rw [List.take_succ_eq_append_getElem h, posC_append]
  rfl
theorem posC_le (cs : List Nat) : (posC cs).length ≤ cs.length := by
  induction cs with
  | nil => simp [posC]
  | cons x a ih => rw [posC]; split <;> simp <;> omega
theorem posC_mem (cs : List Nat) (x : Nat) : x ∈ posC cs → x ∈ cs ∧ 0 < x := by
  induction cs with
  | nil => simp [posC]
  | cons y a ih =>
    rw [posC]
    split
    · next h =>
      intro hx
      rcases List.mem_cons.1 hx with rfl | hx
      · exact ⟨List.mem_cons_self, h⟩
      · exact ⟨List.mem_cons_of_mem _ (ih hx).1, (ih hx).2⟩
    · intro hx
      exact ⟨List.mem_cons_of_mem _ (ih hx).1, (ih hx).2⟩
theorem posC_some (cs : List Nat) (h : ∃ x ∈ cs, 0 < x) : 0 < (posC cs).length := by
  obtain ⟨x, hx, h0⟩ := h
  induction cs with
  | nil => simp at hx
  | cons y a ih =>
    rw [posC]
    split
    · simp
    · next hy =>
      rcases List.mem_cons.1 hx with rfl | hx
      · exact absurd h0 hy
      · exact ih hx
end Bm
end Go.Proofs.YtgcfdjgfnagmjaaGreat

namespace Go.Proofs.YtgcfdjgfnagmjaaGreat
open Go.RowKit

def HLens : Prop := ∀ (w : World) (A : Option Addr) (c : Nat) (l : List Int), l.length ≤ 1000000000 → (∀ x ∈ l, Bm.IntOk x) → Reads w A (i64z l) → Bm.Right l →
  Calls Tryz.prog 32 #[.slice A l.length c] w fun e w' => ∃ B d ls, e = .returned (.tuple #[.slice B l.length d, .bool true]) ∧ l.length ≤ d ∧ Reads w' B (i64s ls) ∧ Bm.GoodN (l.map Int.toNat) ls ∧ Below w.heap.size w w'
end Go.Proofs.YtgcfdjgfnagmjaaGreat

namespace Go.Proofs.YtgcfdjgfnagmjaaGreat
open Go.RowKit
namespace Bm
theorem isort_id : ∀ (l : List Nat), l.Pairwise (· ≤ ·) → isort l = l
  | [], _ => rfl
  | x :: l, h => by
    rw [List.pairwise_cons] at h
    rw [isort, isort_id l h.2, ins_least x l h.1]
theorem desc_eq (D p : List Nat) (h : D.Perm p) (hs : D.Pairwise (· ≥ ·)) : D = (isort p).reverse := by
  have h1 : isort D.reverse = D.reverse := isort_id _ (by rw [List.pairwise_reverse]; exact hs)
  rw [← isort_perm_eq h, ← isort_perm_eq (List.reverse_perm D), h1, List.reverse_reverse]
theorem desc_ins (x : Nat) (A B : List Nat) (h : (A ++ B).Pairwise (· ≥ ·)) (hB : ∀ b ∈ B, b < x) (hA : ∀ a ∈ A, x ≤ a) : (A ++ x :: B).Pairwise (· ≥ ·) := by
  rw [List.pairwise_append] at h ⊢
  refine ⟨h.1, ?_, ?_⟩
  · rw [List.pairwise_cons]
    exact ⟨fun b hb => by have := hB b hb; omega, h.2.1⟩
  · intro a ha b hb
    rcases List.mem_cons.1 hb with rfl | hb
    · exact hA a ha
    · exact h.2.2 a ha b hb
theorem sum_take_le9 (l : List Nat) (a b : Nat) (h : a ≤ b) : (l.take a).sum ≤ (l.take b).sum := by
  have e : l.take a = (l.take b).take a := by rw [List.take_take, Nat.min_eq_left h]
  have h2 : (l.take b).sum = ((l.take b).take a).sum + ((l.take b).drop a).sum := by rw [← List.sum_append_nat, List.take_append_drop]
  rw [e]
  omega
theorem sum_le_len9 (l : List Nat) (M : Nat) (h : ∀ x ∈ l, x ≤ M) : l.sum ≤ M * l.length := by
  induction l with
  | nil => simp
  | cons a l ih =>
    have h1 := h a List.mem_cons_self
    have h2 := ih (fun x hx => h x (List.mem_cons_of_mem _ hx))
    rw [List.sum_cons, List.length_cons, Nat.mul_succ]
    omega
theorem sum_take_next (l : List Nat) (k : Nat) (h : k < l.length) : (l.take (k + 1)).sum = (l.take k).sum + l[k] := by
  rw [List.take_succ_eq_append_getElem h, List.sum_append_nat]
  simp
theorem swap_at (x y : Nat) (R : List Nat) : ∀ A : List Nat, ((A ++ y :: x :: R).set (A.length + 1) y).set A.length x = A ++ x :: y :: R
  | [] => rfl
  | a :: A => by
    have h := swap_at x y R A
    simp only [List.cons_append, List.length_cons, List.set_cons_succ]
    rw [h]
theorem get_at0 (x y : Nat) (R : List Nat) (A : List Nat) : (A ++ y :: x :: R)[A.length]? = some y := by simp
theorem get_at1 (x y : Nat) (R : List Nat) (A : List Nat) : (A ++ y :: x :: R)[A.length + 1]? = some x := by
  rw [List.getElem?_append_right (by omega), show A.length + 1 - A.length = 1 by omega]
  rfl
end Bm
/-- Two neighbours changed round. -/
theorem Seg.swap {w : World} {base g cap x y : Nat} {A R : List Nat} (h : Seg w base g 0 cap (A ++ y :: x :: R)) : Seg ((w.setCell ⟨g, A.length + 1, none⟩ (.int .i64 (y : Int))).setCell ⟨g, A.length, none⟩ (.int .i64 (x : Int))) base g 0 cap (A ++ x :: y :: R) := by
  have h1 := h.set (A.length + 1) (by simp) y
  have h2 := h1.set A.length (by simp) x
  rw [Bm.swap_at, Nat.zero_add, Nat.zero_add] at h2
  exact h2
theorem Seg.cell0 {w : World} {base g off cap : Nat} {l : List Nat} (h : Seg w base g off cap l) (j z : Nat) (hj : l[j]? = some z) : w.cell? ⟨g, off + j, none⟩ = some (.int .i64 (z : Int)) := by
  obtain ⟨h1, h2⟩ := List.getElem?_eq_some_iff.1 hj
  rw [h.cell j h1, h2]

end Go.Proofs.YtgcfdjgfnagmjaaGreat
