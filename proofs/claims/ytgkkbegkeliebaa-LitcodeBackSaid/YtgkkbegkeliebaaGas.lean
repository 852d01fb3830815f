/-
  What layer 10's calls (litcode) are to answer, as the laws' walks ask for it: definitions, each a premise of a law's walk. No condition.
  Layer 10 (litcode): the laws' awake, by its walk: true. Premises: what Encode and Decode answer.
  LitcodeBack (layer 10): the law's function by its walk: true for any lengths and bytes. Premises: what Table, Encode and Decode answer.
  LitcodeAny (layer 10): the law's function by its walk: true for any lengths, string and int. Premises: what Encode and Decode answer.
  LitcodeTables (layer 10): the law's function by its walk: true for any lengths and string. Premises: what Table, Read, Encode and Decode answer.
  LitcodeCosts (layer 10): the law's function by its walk: true for any bytes. Premises: what count's Of, huff's Lengths and Cost, and litcode's Encode and Decode answer.
-/
import Derived.Test.YtgkkbegkeliebaaGar
import Derived.Test.YtgkkbegkeliebaaGap
import Derived.Test.YtgkkbegkeliebaaGac
import Derived.Test.YtgkkbegkeliebaaGag
import Derived.Test.YtgkkbegkeliebaaGaf
namespace Go.Proofs.Ytgkkbegkeliebaa
open Go.RowKit

/-- Lengths as bytes. -/
def LTabOk : Prop := ∀ (w : World) (A : Option Addr) (c : Nat) (l : List Int), l.length ≤ 1000000000 → l.length ≤ c → (∀ x ∈ l, Bm.IntOk x) → Reads w A (i64z l) →
  Calls Try.prog 10 #[.slice A l.length c] w fun e w' => e = .returned (strV (if Bm.WholeI l then some (Bm.tableL (Bm.shortL (l.map Int.toNat))) else none)) ∧ Below w.heap.size w w'
/-- What Read answers. -/
def ReadP (w' : World) (b : Nat) (bs : List Nat) (e : Ending) : Option (List Nat × Nat) → Prop
  | none => ∃ A c, e = .returned (.tuple #[.slice A 0 c, .bool false])
  | some t => ∃ A c, e = .returned (.tuple #[.slice A t.1.length c, .bool true]) ∧ Reads w' A (i64s t.1) ∧ CR w' b (some (bs.drop t.2))
def LReadOk : Prop := ∀ (w : World) (b : Nat) (bs : List Nat), bs.length ≤ 10000 → (∀ x ∈ bs, x < 256) → CR w b (some bs) →
  Calls Try.prog 15 #[.pointer (some ⟨b, 0, none⟩)] w fun e w' => ReadP w' b bs e (Bm.readL bs) ∧ w.grownBy w' (some b)
/-- Bytes in code. -/
def LEncOk : Prop := ∀ (w : World) (A B : Option Addr) (c d : Nat) (l : List Int) (bs : List Nat), l.length ≤ 1000000000 → l.length ≤ c → (∀ x ∈ l, Bm.IntOk x) → bs.length ≤ 10000 → bs.length ≤ d → (∀ x ∈ bs, x < 256) → Reads w A (i64z l) → Reads w B (u8s bs) →
  Calls Try.prog 8 #[.slice A l.length c, .slice B bs.length d] w fun e w' => e = .returned (strV (if Bm.WholeI l then Bm.encT (l.map Int.toNat) bs else none)) ∧ Below w.heap.size w w'
def LDecOk : Prop := ∀ (w : World) (A : Option Addr) (c : Nat) (l : List Int) (s : List Nat) (n : Int), l.length ≤ 1000000000 → l.length ≤ c → (∀ x ∈ l, Bm.IntOk x) → s.length ≤ 1000 → (∀ x ∈ s, x < 256) → Bm.IntOk n → Reads w A (i64z l) →
  Calls Try.prog 11 #[.slice A l.length c, .string (strOf s), .int .i64 n] w fun e w' => BytesQ w' e (if Bm.WholeI l ∧ 0 ≤ n ∧ n ≤ 1048576 then Bm.decT (l.map Int.toNat) s n.toNat else none) ∧ Below w.heap.size w w'
end Go.Proofs.Ytgkkbegkeliebaa

namespace Go.Proofs.Ytgkkbegkeliebaa
open Go.RowKit

theorem whole_n122 : Bm.WholeN [1, 2, 2] := by decide +kernel
theorem whole_i122 : Bm.WholeI [1, 2, 2] := by decide +kernel
theorem enc_122 : Bm.encT [1, 2, 2] [0, 1, 2] = some [26] := by decide +kernel
set_option maxHeartbeats 1000000 in
set_option maxRecDepth 100000 in
theorem lawake_of (hE : LEncOk) (hD : LDecOk) (w : World) : Calls Try.prog 7 #[] w fun e w' => e = .returned (.bool true) ∧ Below w.heap.size w w' := by
  have hdec : Bm.decT [1, 2, 2] [26] 3 = some [0, 1, 2] := Bm.dec_encT [1, 2, 2] [0, 1, 2] [26] whole_n122 enc_122
  obtain ⟨W1, hW1⟩ : ∃ W1, W1 = (w.alloc (.cells #[.int .i64 1, .int .i64 2, .int .i64 2] 3)).alloc (.cells #[.int .u8 0, .int .u8 1, .int .u8 2] 5) := ⟨_, rfl⟩
  have hb1 : Below w.heap.size w W1 := by rw [hW1]; exact ((Below.refl _ w).alloc (Nat.le_refl _) _).alloc (by simp) _
  have hr1 : Reads W1 (some ⟨w.heap.size, 0, none⟩) (i64z [1, 2, 2]) := by
    rw [hW1]
    exact row_reads ((Row.new w 3 (i64z [1, 2, 2])).alloc _)
  have hr2 : Reads W1 (some ⟨w.heap.size + 1, 0, none⟩) (u8s [0, 1, 2]) := by
    rw [hW1]
    have h := Row.new (w.alloc (.cells #[.int .i64 1, .int .i64 2, .int .i64 2] 3)) 5 (u8s [0, 1, 2])
    rw [World.size_alloc] at h
    exact row_reads h
  have henc := hE W1 (some ⟨w.heap.size, 0, none⟩) (some ⟨w.heap.size + 1, 0, none⟩) 3 3 [1, 2, 2] [0, 1, 2] (by decide) (by decide) (by simp [Bm.IntOk]) (by decide) (by decide) (by decide) hr1 hr2
  have e1 : ([1, 2, 2] : List Int).map Int.toNat = [1, 2, 2] := rfl
  rw [if_pos whole_i122, e1, enc_122] at henc
  unfold strV at henc
  dsimp only at henc
  have Henc := Lib.hid henc
  have HW1 := Lib.hid hW1
  have Hdec : Hid (∀ W, Below W1.heap.size W1 W → Calls Try.prog 11 #[.slice (some ⟨w.heap.size, 0, none⟩) 3 3, .string (strOf [26]), .int .i64 3] W fun e w' => ∃ A c, e = .returned (.tuple #[.slice A 3 c, .bool true]) ∧ Reads w' A (u8s [0, 1, 2]) ∧ Below W.heap.size W w') := Lib.hid (fun W hb => by
    have h := hD W (some ⟨w.heap.size, 0, none⟩) 3 [1, 2, 2] [26] 3 (by decide) (by decide) (by simp [Bm.IntOk]) (by decide) (by decide) (by simp [Bm.IntOk]) (reads_on hr1 hb)
    rw [if_pos ⟨whole_i122, by decide, by decide⟩, e1, show Int.toNat 3 = 3 from rfl, hdec] at h
    exact h.mono fun e w' ⟨⟨A, c, he, _, hr⟩, hb⟩ => ⟨A, c, he, hr, hb⟩)
  have Hb1 := Lib.hid hb1
  clear hE hD hdec henc hW1 hr1 hr2 hb1
  go_enter Try.func7, Try.ntmps7
  go_wp2_with fail
  rw [← HW1.out]
  refine Henc.out.mono ?_
  rintro e w2 ⟨rfl, hb2⟩
  have Hd2 := Lib.hid (Hdec.out w2 hb2)
  have Hb2 := Lib.hid (Hb1.out.trans (hb2.mono Hb1.out.size))
  clear hb2 Hdec Henc Hb1
  go_wp2_with fail
  refine Hd2.out.mono ?_
  rintro e w3 ⟨A3, c3, rfl, hr3, hb3⟩
  have hcv : (convert 23 9 (.slice A3 3 c3)).run Try.prog w3 = .ok (.string (strOf [0, 1, 2])) w3 := conv_bytes w3 A3 c3 [0, 1, 2] (by decide) hr3
  have hs1 : ((strOf [26]).toList == ([26] : List UInt8)) = true := by rw [strOf_toList]; decide
  have Hb3 := Lib.hid (Hb2.out.trans (hb3.mono Hb2.out.size))
  clear hb3 hr3 Hb2 Hd2
  go_wp2
  go_ret
  exact ⟨congrArg (fun x => Ending.returned (Value.bool x)) (by simp only [ByteArray.toList_eq]; decide), Hb3.out⟩
end Go.Proofs.Ytgkkbegkeliebaa

namespace Go.Proofs.Ytgkkbegkeliebaa
open Go.RowKit

set_option maxHeartbeats 1000000 in
set_option maxRecDepth 100000 in
theorem lback_long (hE : LEncOk) (hD : LDecOk) (A B : Option Addr) (n c m d : Nat) (w : World) (h : 256 < n ∨ 100 < m) (hn : n ≤ 9223372036854775807) (hm : m ≤ 9223372036854775807) :
    Calls Try.prog 3 #[.slice A n c, .slice B m d] w fun e w' => e = .returned (.bool true) ∧ Below w.heap.size w w' := by
  have Haw := Lib.hid (lawake_of hE hD w)
  clear hE hD
  by_cases h1 : 256 < n
  · clear h
    go_enter Try.func3, Try.ntmps3
    go_wp2_with fail
    refine Haw.out.mono ?_
    rintro e w1 ⟨rfl, hb1⟩
    have Hb1 := Lib.hid hb1
    clear hb1
    go_wp2
    go_ret
    exact ⟨rfl, Hb1.out⟩
  · have h2 : 100 < m := by omega
    have h3 : n ≤ 256 := by omega
    clear h h1
    go_enter Try.func3, Try.ntmps3
    go_wp2_with fail
    refine Haw.out.mono ?_
    rintro e w1 ⟨rfl, hb1⟩
    have Hb1 := Lib.hid hb1
    clear hb1
    go_wp2
    go_ret
    exact ⟨rfl, Hb1.out⟩

set_option maxHeartbeats 1000000 in
set_option maxRecDepth 100000 in
theorem lback_no (hT : LTabOk) (hE : LEncOk) (hD : LDecOk) (A B : Option Addr) (c d : Nat) (l : List Int) (bs : List Nat) (w : World) (hl : l.length ≤ 256) (hb : bs.length ≤ 100) (hc : l.length ≤ c) (hd : bs.length ≤ d) (hok : ∀ x ∈ l, Bm.IntOk x) (hlt : ∀ x ∈ bs, x < 256)
    (hr : Reads w A (i64z l)) (hs : Reads w B (u8s bs)) (hW : ¬ Bm.WholeI l) :
    Calls Try.prog 3 #[.slice A l.length c, .slice B bs.length d] w fun e w' => e = .returned (.bool true) ∧ Below w.heap.size w w' := by
  have Haw := Lib.hid (lawake_of hE hD w)
  have Henc := Lib.hid (fun W (h : Below w.heap.size w W) => hE W A B c d l bs (by omega) hc hok (by omega) hd hlt (reads_on hr h) (reads_on hs h))
  have Htab := Lib.hid (fun W (h : Below w.heap.size w W) => hT W A c l (by omega) hc hok (reads_on hr h))
  have Hdec := Lib.hid (fun W (h : Below w.heap.size w W) => hD W A c l bs 1 (by omega) hc hok (by omega) hlt (by simp [Bm.IntOk]) (reads_on hr h))
  have Hwh := Lib.hid (fun W (h : Below w.heap.size w W) => vwhole_any A c l W (by omega) (reads_on hr h))
  have Hcv := Lib.hid (fun W (h : Below w.heap.size w W) => conv_bytes W B d bs hlt (reads_on hs h))
  rw [if_neg hW] at Henc Htab
  rw [if_neg (fun h => hW h.1)] at Hdec
  rw [decide_eq_false hW] at Hwh
  unfold strV at Henc Htab
  dsimp only at Henc Htab
  have he0 : ((strOf []).toList == ([] : List UInt8)) = true := by rw [strOf_toList]; rfl
  have he1 : (strOf []).toList.isEmpty = true := by rw [strOf_toList]; rfl
  clear hT hE hD hW hr hs hok hlt
  generalize strOf [] = s0 at *
  go_enter Try.func3, Try.ntmps3
  go_wp2_with fail
  refine Haw.out.mono ?_
  rintro e w1 ⟨rfl, hb1⟩
  have He1 := Lib.hid (Henc.out w1 hb1)
  have Hb1 := Lib.hid hb1
  clear hb1 Henc Haw
  go_wp2_with fail
  refine He1.out.mono ?_
  rintro e w2 ⟨rfl, hb2⟩
  have Hb2 := Lib.hid (Hb1.out.trans (hb2.mono Hb1.out.size))
  have Hw2 := Lib.hid (Hwh.out w2 Hb2.out)
  have Ht2 := Lib.hid (Htab.out w2 Hb2.out)
  clear hb2 Hb1 He1 Hwh Htab
  go_wp2_with fail
  refine Hw2.out.mono ?_
  rintro e w' ⟨rfl, rfl⟩
  go_wp2_with fail
  refine Ht2.out.mono ?_
  rintro e w3 ⟨rfl, hb3⟩
  have Hb3 := Lib.hid (Hb2.out.trans (hb3.mono Hb2.out.size))
  have hcv := Hcv.out w3 Hb3.out
  have Hd3 := Lib.hid (Hdec.out w3 Hb3.out)
  clear hb3 Hb2 Hw2 Ht2 Hcv Hdec
  generalize strOf bs = sb at *
  go_wp2_with fail
  refine Hd3.out.mono ?_
  rintro e w4 ⟨⟨A4, c4, rfl⟩, hb4⟩
  have Hb4 := Lib.hid (Hb3.out.trans (hb4.mono Hb3.out.size))
  clear hb4 Hb3 Hd3 hcv
  go_wp2
  go_ret
  exact ⟨rfl, Hb4.out⟩

set_option maxHeartbeats 1000000 in
set_option maxRecDepth 100000 in
theorem lback_yes (hE : LEncOk) (hD : LDecOk) (A B : Option Addr) (c d : Nat) (l : List Int) (bs : List Nat) (w : World) (hl : l.length ≤ 256) (hb : bs.length ≤ 100) (hc : l.length ≤ c) (hd : bs.length ≤ d) (hok : ∀ x ∈ l, Bm.IntOk x) (hlt : ∀ x ∈ bs, x < 256)
    (hr : Reads w A (i64z l)) (hs : Reads w B (u8s bs)) (hW : Bm.WholeI l) :
    Calls Try.prog 3 #[.slice A l.length c, .slice B bs.length d] w fun e w' => e = .returned (.bool true) ∧ Below w.heap.size w w' := by
  obtain ⟨el, h11, hlen⟩ := Bm.lenR_nat l hW.1
  have hrs : Reads w A (i64s (l.map Int.toNat)) := by rw [← i64z_nat, ← el]; exact hr
  have hWn := hW.2
  have Haw := Lib.hid (lawake_of hE hD w)
  have Henc := Lib.hid (fun W (h : Below w.heap.size w W) => hE W A B c d l bs (by omega) hc hok (by omega) hd hlt (reads_on hr h) (reads_on hs h))
  have Hxe := Lib.hid (fun W (h : Below w.heap.size w W) => xenc_any A B c d (l.map Int.toNat) bs W (by rw [hlen]; exact hl) h11 (by omega) hlt (reads_on hrs h) (reads_on hs h))
  have Hdec := Lib.hid (fun W s (h : Below w.heap.size w W) (h1 : s.length ≤ 1000) (h2 : ∀ x ∈ s, x < 256) => hD W A c l s (bs.length : Int) (by omega) hc hok h1 h2 (by constructor <;> omega) (reads_on hr h))
  have Hwh := Lib.hid (fun W (h : Below w.heap.size w W) => vwhole_any A c l W (by omega) (reads_on hr h))
  have Hcv := Lib.hid (fun W (h : Below w.heap.size w W) => conv_bytes W B d bs hlt (reads_on hs h))
  have Hcd := Lib.hid (fun W A' c' (h : Reads W A' (u8s bs)) => conv_bytes W A' c' bs hlt h)
  rw [if_pos hW] at Henc
  rw [hlen] at Hxe
  simp only [if_pos (show Bm.WholeI l ∧ 0 ≤ (bs.length : Int) ∧ (bs.length : Int) ≤ 1048576 from ⟨hW, by omega, by omega⟩), Int.toNat_natCast] at Hdec
  rw [decide_eq_true hW] at Hwh
  clear hE hD hr hrs hs hok hlt hW el h11 hlen
  generalize l.map Int.toNat = ls at *
  cases henc : Bm.encT ls bs with
  | none =>
    rw [henc] at Henc Hxe
    unfold strV at Henc Hxe
    dsimp only at Henc Hxe
    have he0 : ((strOf []).toList == (strOf []).toList) = true := by simp
    clear henc Hdec Hcv Hcd hWn
    generalize strOf [] = s0 at *
    go_enter Try.func3, Try.ntmps3
    go_wp2_with fail
    refine Haw.out.mono ?_
    rintro e w1 ⟨rfl, hb1⟩
    have He1 := Lib.hid (Henc.out w1 hb1)
    have Hb1 := Lib.hid hb1
    clear hb1 Henc Haw
    go_wp2_with fail
    refine He1.out.mono ?_
    rintro e w2 ⟨rfl, hb2⟩
    have Hb2 := Lib.hid (Hb1.out.trans (hb2.mono Hb1.out.size))
    have Hw2 := Lib.hid (Hwh.out w2 Hb2.out)
    have Hx2 := Lib.hid (Hxe.out w2 Hb2.out)
    clear hb2 Hb1 He1 Hwh Hxe
    go_wp2_with fail
    refine Hw2.out.mono ?_
    rintro e w' ⟨rfl, rfl⟩
    go_wp2_with fail
    refine Hx2.out.mono ?_
    rintro e w3 ⟨rfl, hb3⟩
    have Hb3 := Lib.hid (Hb2.out.trans (hb3.mono Hb2.out.size))
    clear hb3 Hb2 Hw2 Hx2
    go_wp2
    go_ret
    exact ⟨rfl, Hb3.out⟩
  | some s =>
    have hdt := Bm.dec_encT ls bs s hWn henc
    have hs8 : s.length ≤ 1000 ∧ ∀ x ∈ s, x < 256 := by
      unfold Bm.encT at henc
      cases he : Bm.encS ls bs with
      | none => rw [he] at henc; cases henc
      | some t =>
        rw [he, Option.map_some] at henc
        injection henc with henc
        subst henc
        refine ⟨?_, Bm.packS_lt t⟩
        have h1 := Bm.encS_length ls bs t he
        have h2 : Bm.codeLen ls bs ≤ 11 * bs.length := by
          unfold Bm.codeLen
          clear he h1 hdt Henc Hxe Hdec Hcv Hcd Haw Hwh
          induction bs with
          | nil => simp
          | cons b bs ih =>
            have h3 := Bm.get_le (show ∀ x ∈ ls, x ≤ 11 from hWn.2.1) b
            rw [List.map_cons, List.sum_cons, List.length_cons]
            have h4 := ih (by simp at hb; omega) (by simp at hd; omega)
            omega
        rw [Bm.packS_length]
        omega
    rw [henc] at Henc Hxe
    unfold strV at Henc Hxe
    dsimp only at Henc Hxe
    have Hd := Lib.hid (fun W (h : Below w.heap.size w W) => Hdec.out W s h hs8.1 hs8.2)
    rw [hdt] at Hd
    have he0 : ((strOf s).toList == (strOf s).toList) = true := by simp
    have he1 : ((strOf bs).toList == (strOf bs).toList) = true := by simp
    clear henc hdt hs8 Hdec hWn
    generalize strOf s = ss at *
    go_enter Try.func3, Try.ntmps3
    go_wp2_with fail
    refine Haw.out.mono ?_
    rintro e w1 ⟨rfl, hb1⟩
    have He1 := Lib.hid (Henc.out w1 hb1)
    have Hb1 := Lib.hid hb1
    clear hb1 Henc Haw
    go_wp2_with fail
    refine He1.out.mono ?_
    rintro e w2 ⟨rfl, hb2⟩
    have Hb2 := Lib.hid (Hb1.out.trans (hb2.mono Hb1.out.size))
    have Hw2 := Lib.hid (Hwh.out w2 Hb2.out)
    have Hx2 := Lib.hid (Hxe.out w2 Hb2.out)
    clear hb2 Hb1 He1 Hwh Hxe
    go_wp2_with fail
    refine Hw2.out.mono ?_
    rintro e w' ⟨rfl, rfl⟩
    go_wp2_with fail
    refine Hx2.out.mono ?_
    rintro e w3 ⟨rfl, hb3⟩
    have Hb3 := Lib.hid (Hb2.out.trans (hb3.mono Hb2.out.size))
    have Hd3 := Lib.hid (Hd.out w3 Hb3.out)
    clear hb3 Hb2 Hw2 Hx2 Hd
    go_wp2_with fail
    refine Hd3.out.mono ?_
    rintro e w4 ⟨⟨A4, c4, rfl, _, hr4⟩, hb4⟩
    have Hb4 := Lib.hid (Hb3.out.trans (hb4.mono Hb3.out.size))
    have k1 := Hcv.out w4 Hb4.out
    have k2 := Hcd.out w4 A4 c4 hr4
    clear hb4 Hb3 Hd3 Hcv Hcd hr4
    generalize strOf bs = sb at *
    go_wp2
    go_ret
    exact ⟨rfl, Hb4.out⟩
end Go.Proofs.Ytgkkbegkeliebaa

namespace Go.Proofs.Ytgkkbegkeliebaa
open Go.RowKit

set_option maxHeartbeats 1000000 in
set_option maxRecDepth 100000 in
theorem lany_skip (hE : LEncOk) (hD : LDecOk) (A : Option Addr) (c : Nat) (l : List Int) (s : List Nat) (n : Int) (w : World) (hl : l.length ≤ 9223372036854775807) (hs : s.length ≤ 9223372036854775807) (hr : Reads w A (i64z l))
    (h : 256 < l.length ∨ 60 < s.length ∨ (300 < n ∧ n ≤ 1048576) ∨ ¬ Bm.WholeI l) :
    Calls Try.prog 4 #[.slice A l.length c, .string (strOf s), .int .i64 n] w fun e w' => e = .returned (.bool true) ∧ Below w.heap.size w w' := by
  have Haw := Lib.hid (lawake_of hE hD w)
  have hsz := strOf_size s
  clear hE hD
  by_cases h1 : 256 < l.length
  · clear h
    generalize strOf s = ss at *
    generalize l.length = L at *
    go_enter Try.func4, Try.ntmps4
    go_wp2_with fail
    refine Haw.out.mono ?_
    rintro e w1 ⟨rfl, hb1⟩
    have Hb1 := Lib.hid hb1
    clear hb1
    go_wp2
    go_ret
    exact ⟨rfl, Hb1.out⟩
  by_cases h2 : 60 < s.length
  · have h3 : l.length ≤ 256 := by omega
    clear h h1
    generalize strOf s = ss at *
    generalize l.length = L at *
    go_enter Try.func4, Try.ntmps4
    go_wp2_with fail
    refine Haw.out.mono ?_
    rintro e w1 ⟨rfl, hb1⟩
    have Hb1 := Lib.hid hb1
    clear hb1
    go_wp2
    go_ret
    exact ⟨rfl, Hb1.out⟩
  by_cases h3 : 300 < n ∧ n ≤ 1048576
  · have h4 : l.length ≤ 256 := by omega
    have h5 : s.length ≤ 60 := by omega
    obtain ⟨h6, h7⟩ := h3
    clear h h1 h2
    generalize strOf s = ss at *
    generalize l.length = L at *
    go_enter Try.func4, Try.ntmps4
    go_wp2_with fail
    refine Haw.out.mono ?_
    rintro e w1 ⟨rfl, hb1⟩
    have Hb1 := Lib.hid hb1
    clear hb1
    go_wp2
    go_ret
    exact ⟨rfl, Hb1.out⟩
  have hW : ¬ Bm.WholeI l := by
    rcases h with h | h | h | h
    · exact absurd h h1
    · exact absurd h h2
    · exact absurd h h3
    · exact h
  have h4 : l.length ≤ 256 := by omega
  have h5 : s.length ≤ 60 := by omega
  have Hwh := Lib.hid (fun W (h : Below w.heap.size w W) => vwhole_any A c l W (by omega) (reads_on hr h))
  rw [decide_eq_false hW] at Hwh
  have Hn := Lib.hid h3
  clear h h1 h2 hW hr
  generalize strOf s = ss at *
  generalize l.length = L at *
  by_cases h6 : 300 < n
  · have h7 : 1048576 < n := by have := Hn.out; omega
    clear Hn h3
    go_enter Try.func4, Try.ntmps4
    go_wp2_with fail
    refine Haw.out.mono ?_
    rintro e w1 ⟨rfl, hb1⟩
    have Hw1 := Lib.hid (Hwh.out w1 hb1)
    have Hb1 := Lib.hid hb1
    clear hb1 Hwh
    go_wp2_with fail
    refine Hw1.out.mono ?_
    rintro e w' ⟨rfl, rfl⟩
    go_wp2
    go_ret
    exact ⟨rfl, Hb1.out⟩
  · clear Hn h3
    go_enter Try.func4, Try.ntmps4
    go_wp2_with fail
    refine Haw.out.mono ?_
    rintro e w1 ⟨rfl, hb1⟩
    have Hw1 := Lib.hid (Hwh.out w1 hb1)
    have Hb1 := Lib.hid hb1
    clear hb1 Hwh
    go_wp2_with fail
    refine Hw1.out.mono ?_
    rintro e w' ⟨rfl, rfl⟩
    go_wp2
    go_ret
    exact ⟨rfl, Hb1.out⟩

set_option maxHeartbeats 1000000 in
set_option maxRecDepth 100000 in
theorem lany_out (hE : LEncOk) (hD : LDecOk) (A : Option Addr) (c : Nat) (l : List Int) (s : List Nat) (n : Int) (w : World) (hl : l.length ≤ 256) (hc : l.length ≤ c) (hok : ∀ x ∈ l, Bm.IntOk x) (hs : s.length ≤ 60) (hlt : ∀ x ∈ s, x < 256) (hn : Bm.IntOk n) (hr : Reads w A (i64z l))
    (hW : Bm.WholeI l) (h : n < 0 ∨ 1048576 < n) :
    Calls Try.prog 4 #[.slice A l.length c, .string (strOf s), .int .i64 n] w fun e w' => e = .returned (.bool true) ∧ Below w.heap.size w w' := by
  have Haw := Lib.hid (lawake_of hE hD w)
  have hsz := strOf_size s
  have Hwh := Lib.hid (fun W (h : Below w.heap.size w W) => vwhole_any A c l W (by omega) (reads_on hr h))
  rw [decide_eq_true hW] at Hwh
  have Hd := Lib.hid (fun W (h : Below w.heap.size w W) => hD W A c l s n (by omega) hc hok (by omega) hlt hn (reads_on hr h))
  rw [if_neg (fun h2 => by omega)] at Hd
  clear hE hD hW hr hok hlt hn
  generalize strOf s = ss at *
  generalize l.length = L at *
  rcases h with h | h
  · go_enter Try.func4, Try.ntmps4
    go_wp2_with fail
    refine Haw.out.mono ?_
    rintro e w1 ⟨rfl, hb1⟩
    have Hw1 := Lib.hid (Hwh.out w1 hb1)
    have Hd1 := Lib.hid (Hd.out w1 hb1)
    have Hb1 := Lib.hid hb1
    clear hb1 Hwh Hd
    go_wp2_with fail
    refine Hw1.out.mono ?_
    rintro e w' ⟨rfl, rfl⟩
    go_wp2_with fail
    refine Hd1.out.mono ?_
    rintro e w2 ⟨⟨A2, c2, rfl⟩, hb2⟩
    have Hb2 := Lib.hid (Hb1.out.trans (hb2.mono Hb1.out.size))
    clear hb2 Hb1 Hd1 Hw1
    go_wp2
    go_ret
    exact ⟨rfl, Hb2.out⟩
  · go_enter Try.func4, Try.ntmps4
    go_wp2_with fail
    refine Haw.out.mono ?_
    rintro e w1 ⟨rfl, hb1⟩
    have Hw1 := Lib.hid (Hwh.out w1 hb1)
    have Hd1 := Lib.hid (Hd.out w1 hb1)
    have Hb1 := Lib.hid hb1
    clear hb1 Hwh Hd
    go_wp2_with fail
    refine Hw1.out.mono ?_
    rintro e w' ⟨rfl, rfl⟩
    go_wp2_with fail
    refine Hd1.out.mono ?_
    rintro e w2 ⟨⟨A2, c2, rfl⟩, hb2⟩
    have Hb2 := Lib.hid (Hb1.out.trans (hb2.mono Hb1.out.size))
    clear hb2 Hb1 Hd1 Hw1
    go_wp2
    go_ret
    exact ⟨rfl, Hb2.out⟩

set_option maxHeartbeats 1000000 in
set_option maxRecDepth 100000 in
theorem lany_in (hE : LEncOk) (hD : LDecOk) (A : Option Addr) (c m : Nat) (l : List Int) (s : List Nat) (w : World) (hl : l.length ≤ 256) (hc : l.length ≤ c) (hok : ∀ x ∈ l, Bm.IntOk x) (hs : s.length ≤ 60) (hlt : ∀ x ∈ s, x < 256) (hr : Reads w A (i64z l))
    (hW : Bm.WholeI l) (hm : m ≤ 300) :
    Calls Try.prog 4 #[.slice A l.length c, .string (strOf s), .int .i64 (m : Int)] w fun e w' => e = .returned (.bool true) ∧ Below w.heap.size w w' := by
  obtain ⟨el, h11, hlen⟩ := Bm.lenR_nat l hW.1
  have hrs : Reads w A (i64s (l.map Int.toNat)) := by rw [← i64z_nat, ← el]; exact hr
  have hWn := hW.2
  have Haw := Lib.hid (lawake_of hE hD w)
  have hsz := strOf_size s
  have Hwh := Lib.hid (fun W (h : Below w.heap.size w W) => vwhole_any A c l W (by omega) (reads_on hr h))
  rw [decide_eq_true hW] at Hwh
  have Hd := Lib.hid (fun W (h : Below w.heap.size w W) => hD W A c l s (m : Int) (by omega) hc hok (by omega) hlt (by constructor <;> omega) (reads_on hr h))
  rw [if_pos ⟨hW, by omega, by omega⟩, Int.toNat_natCast] at Hd
  have Hx := Lib.hid (fun W (h : Below w.heap.size w W) => xdec_any A c m (l.map Int.toNat) s W hWn (by omega) (by omega) hlt (reads_on hrs h))
  rw [hlen] at Hx
  have He := Lib.hid (fun W B d bs (h : Below w.heap.size w W) (h1 : bs.length ≤ 10000) (h2 : bs.length ≤ d) (h3 : ∀ x ∈ bs, x < 256) (h4 : Reads W B (u8s bs)) => hE W A B c d l bs (by omega) hc hok h1 h2 h3 (reads_on hr h) h4)
  simp only [if_pos hW] at He
  have hl256 : (l.map Int.toNat).length ≤ 256 := by rw [hlen]; exact hl
  have d3 : decide (300 < (m : Int)) = false := decide_eq_false (by omega)
  clear hE hD hW hr hrs hok el h11 hlen
  generalize l.map Int.toNat = ls at *
  generalize l.length = L at *
  cases hdt : Bm.decT ls s m with
  | none =>
    rw [hdt] at Hd Hx
    clear He hdt hWn hlt
    generalize strOf s = ss at *
    go_enter Try.func4, Try.ntmps4
    go_wp2_with fail
    refine Haw.out.mono ?_
    rintro e w1 ⟨rfl, hb1⟩
    have Hw1 := Lib.hid (Hwh.out w1 hb1)
    have Hd1 := Lib.hid (Hd.out w1 hb1)
    have Hb1 := Lib.hid hb1
    clear hb1 Hwh Hd
    go_wp2_with fail
    refine Hw1.out.mono ?_
    rintro e w' ⟨rfl, rfl⟩
    go_wp2_with fail
    refine Hd1.out.mono ?_
    rintro e w2 ⟨⟨A2, c2, rfl⟩, hb2⟩
    have Hb2 := Lib.hid (Hb1.out.trans (hb2.mono Hb1.out.size))
    have Hx2 := Lib.hid (Hx.out w2 Hb2.out)
    clear hb2 Hb1 Hd1 Hw1 Hx
    go_wp2_with fail
    refine Hx2.out.mono ?_
    rintro e w3 ⟨⟨A3, c3, rfl⟩, hb3⟩
    have Hb3 := Lib.hid (Hb2.out.trans (hb3.mono Hb2.out.size))
    have k2 : (convert 23 9 (.slice A2 0 c2)).run Try.prog w3 = .ok (.string (strOf [])) w3 := conv_bytes w3 A2 c2 [] (by simp) (fun h => absurd rfl h)
    have k3 : (convert 23 9 (.slice A3 0 c3)).run Try.prog w3 = .ok (.string (strOf [])) w3 := conv_bytes w3 A3 c3 [] (by simp) (fun h => absurd rfl h)
    have he0 : ((strOf []).toList == (strOf []).toList) = true := by simp
    clear hb3 Hb2 Hx2
    generalize strOf [] = s0 at *
    go_wp2
    go_ret
    exact ⟨rfl, Hb3.out⟩
  | some dl =>
    obtain ⟨g1, g2, g3⟩ := Bm.enc_decT ls s dl m hlt hdt
    have hd256 : ∀ x ∈ dl, x < 256 := fun x hx => by have := g3 x hx; omega
    rw [hdt] at Hd Hx
    subst g2
    have He2 := Lib.hid (fun W B d (h : Below w.heap.size w W) (h2 : dl.length ≤ d) (h4 : Reads W B (u8s dl)) => He.out W B d dl h (by omega) h2 hd256 h4)
    rw [g1] at He2
    unfold strV at He2
    dsimp only at He2
    have Hcv := Lib.hid (fun W A' c' (h : Reads W A' (u8s dl)) => conv_bytes W A' c' dl hd256 h)
    clear He hdt hWn hlt g1 g3 hd256
    have he0 : ((strOf dl).toList == (strOf dl).toList) = true := by simp
    have he1 : ((strOf s).toList == (strOf s).toList) = true := by simp
    generalize strOf s = ss at *
    go_enter Try.func4, Try.ntmps4
    go_wp2_with fail
    refine Haw.out.mono ?_
    rintro e w1 ⟨rfl, hb1⟩
    have Hw1 := Lib.hid (Hwh.out w1 hb1)
    have Hd1 := Lib.hid (Hd.out w1 hb1)
    have Hb1 := Lib.hid hb1
    clear hb1 Hwh Hd
    go_wp2_with fail
    refine Hw1.out.mono ?_
    rintro e w' ⟨rfl, rfl⟩
    go_wp2_with fail
    refine Hd1.out.mono ?_
    rintro e w2 ⟨⟨A2, c2, rfl, hc2, hr2⟩, hb2⟩
    have Hb2 := Lib.hid (Hb1.out.trans (hb2.mono Hb1.out.size))
    have Hx2 := Lib.hid (Hx.out w2 Hb2.out)
    have Hr2 := Lib.hid hr2
    clear hb2 Hb1 Hd1 Hw1 Hx hr2
    go_wp2_with fail
    refine Hx2.out.mono ?_
    rintro e w3 ⟨⟨A3, c3, rfl, _, hr3⟩, hb3⟩
    have Hb3 := Lib.hid (Hb2.out.trans (hb3.mono Hb2.out.size))
    have hr23 := reads_on Hr2.out hb3
    have k2 := Hcv.out w3 A2 c2 hr23
    have k3 := Hcv.out w3 A3 c3 hr3
    have He3 := Lib.hid (He2.out w3 A2 c2 Hb3.out hc2 hr23)
    clear hb3 Hb2 Hx2 Hcv hr23 hr3 He2 Hr2
    generalize strOf dl = sd at *
    generalize dl.length = D at *
    go_wp2_with fail
    refine He3.out.mono ?_
    rintro e w4 ⟨rfl, hb4⟩
    have Hb4 := Lib.hid (Hb3.out.trans (hb4.mono Hb3.out.size))
    clear hb4 Hb3 He3 k2 k3
    go_wp2
    go_ret
    exact ⟨rfl, Hb4.out⟩
end Go.Proofs.Ytgkkbegkeliebaa

namespace Go.Proofs.Ytgkkbegkeliebaa
open Go.RowKit

set_option maxHeartbeats 1000000 in
set_option maxRecDepth 100000 in
theorem ltables_long (hE : LEncOk) (hD : LDecOk) (A : Option Addr) (n c : Nat) (s : List Nat) (w : World) (h : 256 < n ∨ 200 < s.length) (hn : n ≤ 9223372036854775807) (hs : s.length ≤ 9223372036854775807) :
    Calls Try.prog 5 #[.slice A n c, .string (strOf s)] w fun e w' => e = .returned (.bool true) ∧ Below w.heap.size w w' := by
  have Haw := Lib.hid (lawake_of hE hD w)
  have hsz := strOf_size s
  clear hE hD
  by_cases h1 : 256 < n
  · clear h
    generalize strOf s = ss at *
    go_enter Try.func5, Try.ntmps5
    go_wp2_with fail
    refine Haw.out.mono ?_
    rintro e w1 ⟨rfl, hb1⟩
    have Hb1 := Lib.hid hb1
    clear hb1
    go_wp2
    go_ret
    exact ⟨rfl, Hb1.out⟩
  · have h2 : 200 < s.length := by omega
    have h3 : n ≤ 256 := by omega
    clear h h1
    generalize strOf s = ss at *
    go_enter Try.func5, Try.ntmps5
    go_wp2_with fail
    refine Haw.out.mono ?_
    rintro e w1 ⟨rfl, hb1⟩
    have Hb1 := Lib.hid hb1
    clear hb1
    go_wp2
    go_ret
    exact ⟨rfl, Hb1.out⟩

/-- The first lengths of a slice, without the noughts at its end. -/
theorem short_of (A : Option Addr) (c : Nat) (ls : List Nat) (w : World) (hl : ls.length ≤ 1000000000) (hc : ls.length ≤ c) (hr : Reads w A (i64s ls)) :
    Calls Try.prog 18 #[.slice A ls.length c] w (fun e w' => e = .returned (.slice A (Bm.shortL ls).length c) ∧ w = w') ∧ Reads w A (i64s (Bm.shortL ls)) := by
  have hsh := gshort_any A c (ls.map fun n : Nat => (n : Int)) w (by simpa using hl) (by simpa using hc) (by rw [i64z_nat]; exact hr)
  rw [List.length_map] at hsh
  obtain ⟨m0, hm0⟩ := Bm.short_split ls
  refine ⟨hsh.mono fun e w' ⟨k, he, hk, hw⟩ => (show e = Ending.returned (.slice A (Bm.shortL ls).length c) ∧ w = w' from by
    obtain ⟨_, e2, _⟩ := short_ends ls k hk
    exact ⟨by rw [← e2]; exact he, hw⟩), ?_⟩
  have h := reads_take hr (Bm.shortL ls).length
  have e : ∀ l1 l2 : List Nat, (i64s (l1 ++ l2)).take l1.length = i64s l1 := fun l1 l2 => by rw [← i64s_append, ← i64s_length l1, List.take_left]
  have e2 := e (Bm.shortL ls) (List.replicate m0 0)
  rw [← hm0] at e2
  rwa [e2] at h

set_option maxHeartbeats 2000000 in
set_option maxRecDepth 100000 in
theorem ltables_short (hT : LTabOk) (hR : LReadOk) (hE : LEncOk) (hD : LDecOk) (A : Option Addr) (c : Nat) (l : List Int) (s : List Nat) (w : World) (hl : l.length ≤ 256) (hc : l.length ≤ c) (hok : ∀ x ∈ l, Bm.IntOk x) (hs : s.length ≤ 200) (hlt : ∀ x ∈ s, x < 256) (hr : Reads w A (i64z l)) :
    Calls Try.prog 5 #[.slice A l.length c, .string (strOf s)] w fun e w' => e = .returned (.bool true) ∧ Below w.heap.size w w' := by
  have Haw := Lib.hid (lawake_of hE hD w)
  have hsz := strOf_size s
  have Htab := Lib.hid (fun W (h : Below w.heap.size w W) => hT W A c l (by omega) hc hok (reads_on hr h))
  have Hwh := Lib.hid (fun W (h : Below w.heap.size w W) => vwhole_any A c l W (by omega) (reads_on hr h))
  have Hread := Lib.hid hR
  have Hr := Lib.hid hr
  have Hlt := Lib.hid hlt
  have Hok := Lib.hid hok
  have d1 : decide (256 < (l.length : Int)) = false := decide_eq_false (by omega)
  have d2 : decide (200 < (s.length : Int)) = false := decide_eq_false (by omega)
  obtain ⟨wb, hwb⟩ : ∃ x, x = decide (Bm.WholeI l) := ⟨_, rfl⟩
  have Hwb := Lib.hid hwb
  rw [← hwb] at Hwh
  have hst : ∃ T, strV (if Bm.WholeI l then some (Bm.tableL (Bm.shortL (l.map Int.toNat))) else none) = .tuple #[.string (strOf T), .bool wb] ∧ (wb = true → T = Bm.tableL (Bm.shortL (l.map Int.toNat))) := by
    by_cases hW : Bm.WholeI l
    · rw [if_pos hW, hwb, decide_eq_true hW]; exact ⟨_, rfl, fun _ => rfl⟩
    · rw [if_neg hW, hwb, decide_eq_false hW]; exact ⟨[], rfl, fun h => by cases h⟩
  obtain ⟨T, hT1, hT2⟩ := hst
  rw [hT1] at Htab
  have HT2 := Lib.hid hT2
  have hbb : (wb == wb) = true := by simp
  clear hT hR hE hD hr hlt hok hwb hT1 hT2
  go_enter Try.func5, Try.ntmps5
  go_wp2_with fail
  refine Haw.out.mono ?_
  rintro e w1 ⟨rfl, hb1⟩
  have Ht1 := Lib.hid (Htab.out w1 hb1)
  have Hb1 := Lib.hid hb1
  clear hb1 Haw Htab
  go_wp2_with fail
  refine Ht1.out.mono ?_
  rintro e w2 ⟨rfl, hb2⟩
  have Hb2 := Lib.hid (Hb1.out.trans (hb2.mono Hb1.out.size))
  have Hw2 := Lib.hid (Hwh.out w2 Hb2.out)
  clear hb2 Hb1 Hwh Ht1
  go_wp2_with fail
  refine Hw2.out.mono ?_
  rintro e w' ⟨rfl, rfl⟩
  cases wb with
  | false =>
    have Hb3 := Hb2
    have Hnew := Lib.hid (cnew_any s w2)
    cases hrl : Bm.readL s with
    | none =>
      have Hxr : Hid (∀ W, Calls Try.prog 20 #[.string (strOf s)] W fun e w' => e = .returned (.tuple #[.slice none 0 0, .int .i64 0]) ∧ Below W.heap.size W w') := Lib.hid (fun W => by
        have h := xread_any s W (by omega) Hlt.out
        rw [hrl] at h
        exact h)
      have Hrd : Hid (∀ W b, CR W b (some s) → Calls Try.prog 15 #[.pointer (some ⟨b, 0, none⟩)] W fun e w' => ∃ A c, e = .returned (.tuple #[.slice A 0 c, .bool false]) ∧ W.grownBy w' (some b)) := Lib.hid (fun W b hcr => by
        have h := Hread.out W b s (by omega) Hlt.out hcr
        rw [hrl] at h
        exact h.mono fun e w' ⟨⟨A, c, he⟩, hg⟩ => ⟨A, c, he, hg⟩)
      clear hrl Hread Hr Hok Hwb HT2
      generalize strOf s = ss at *
      go_wp2_with fail
      refine Hnew.out.mono ?_
      rintro e w5 ⟨rfl, hcr5, hb5⟩
      have Hb5 := Lib.hid (Hb3.out.trans (hb5.mono Hb3.out.size))
      have Hrd5 := Lib.hid (Hrd.out w5 _ hcr5)
      have hsx5 := Hb3.out.size
      clear hb5 hcr5 Hnew Hrd
      go_wp2_with fail
      refine Hrd5.out.mono ?_
      rintro e w6 ⟨A6, c6, rfl, hg6⟩
      have Hb6 := Lib.hid (Hb5.out.grown hg6 Hb5.out.size (fun x e => by injection e with e; omega))
      have Hx6 := Lib.hid (Hxr.out w6)
      clear hg6 Hrd5 Hb5 Hxr
      go_wp2_with fail
      refine Hx6.out.mono ?_
      rintro e w7 ⟨rfl, hb7⟩
      have Hb7 := Lib.hid (Hb6.out.trans (hb7.mono Hb6.out.size))
      have Hs7 : Hid (Calls Try.prog 17 #[.slice A6 0 c6, .slice none 0 0] w7 fun e w' => e = .returned (.bool true) ∧ Below w7.heap.size w7 w') := Lib.hid (lsame_any A6 none c6 0 [] [] w7 (by simp) (by simp) (fun h => absurd rfl h) (fun h => absurd rfl h))
      clear hb7 Hb6 Hx6
      go_wp2_with fail
      refine Hs7.out.mono ?_
      rintro e w8 ⟨rfl, hb8⟩
      have Hb8 := Lib.hid (Hb7.out.trans (hb8.mono Hb7.out.size))
      clear hb8 Hb7 Hs7
      go_wp2_with fail
      go_quiet (fail)
      go_wp2
      go_ret
      exact ⟨rfl, below_drewN Hb8.out _⟩
    | some t =>
      obtain ⟨l', at'⟩ := t
      obtain ⟨ha1, ha2, _⟩ := Bm.readL_at s l' at' hrl
      have Hxr : Hid (∀ W, Calls Try.prog 20 #[.string (strOf s)] W fun e w' => ∃ A c, e = .returned (.tuple #[.slice A l'.length c, .int .i64 (at' : Int)]) ∧ Reads w' A (i64s l') ∧ Below W.heap.size W w') := Lib.hid (fun W => by
        have h := xread_any s W (by omega) Hlt.out
        rw [hrl] at h
        exact h.mono fun e w' ⟨⟨A, c, he, hr⟩, hb⟩ => ⟨A, c, he, hr, hb⟩)
      have Hrd : Hid (∀ W b, CR W b (some s) → Calls Try.prog 15 #[.pointer (some ⟨b, 0, none⟩)] W fun e w' => ∃ A c, e = .returned (.tuple #[.slice A l'.length c, .bool true]) ∧ Reads w' A (i64s l') ∧ CR w' b (some (s.drop at')) ∧ W.grownBy w' (some b)) := Lib.hid (fun W b hcr => by
        have h := Hread.out W b s (by omega) Hlt.out hcr
        rw [hrl] at h
        exact h.mono fun e w' ⟨⟨A, c, he, hr, hc⟩, hg⟩ => ⟨A, c, he, hr, hc, hg⟩)
      have hl257 : l'.length ≤ 1000 := by
        have h2 : s[0]?.getD 0 ≤ 255 := by
          cases h0 : s[0]? with
          | none => simp
          | some x => have := Hlt.out x (List.mem_of_getElem? h0); simp; omega
        omega
      have hcut := fun W => str_from s at' ha1 W
      have da : decide (0 < (at' : Int)) = true := decide_eq_true (by omega)
      have hee : ((strOf (s.drop at')).toList == (strOf (s.drop at')).toList) = true := by simp
      have Hrest := Lib.hid (fun W b (h : CR W b (some (s.drop at'))) => (rrest_any b (some (s.drop at')) W h).mono fun e w' ⟨h1, _, h3⟩ => (show e = Ending.returned (.string (strOf (s.drop at'))) ∧ W.grownBy w' (some b) from ⟨h1, h3⟩))
      clear hrl Hread Hr Hok Hwb HT2
      generalize strOf (s.drop at') = sr at *
      generalize strOf s = ss at *
      go_wp2_with fail
      refine Hnew.out.mono ?_
      rintro e w5 ⟨rfl, hcr5, hb5⟩
      have Hb5 := Lib.hid (Hb3.out.trans (hb5.mono Hb3.out.size))
      have Hrd5 := Lib.hid (Hrd.out w5 _ hcr5)
      have hsx5 := Hb3.out.size
      have hlt5 := hcr5.lt
      obtain ⟨bx, hbx⟩ : ∃ x, x = w2.heap.size := ⟨_, rfl⟩
      rw [← hbx] at Hrd5 hsx5 hlt5 ⊢
      clear hb5 hcr5 Hnew Hrd hbx
      go_wp2_with fail
      refine Hrd5.out.mono ?_
      rintro e w6 ⟨A6, c6, rfl, hr6, hcr6, hg6⟩
      have hs6 := hg6.size
      have Hb6 := Lib.hid (Hb5.out.grown hg6 Hb5.out.size (fun x e => by injection e with e; omega))
      have Hx6 := Lib.hid (Hxr.out w6)
      have Hr6 := Lib.hid hr6
      have Hcr6 := Lib.hid hcr6
      clear hg6 Hrd5 Hb5 Hxr hr6 hcr6
      go_wp2_with fail
      refine Hx6.out.mono ?_
      rintro e w7 ⟨A7, c7, rfl, hr7, hb7⟩
      have Hb7 := Lib.hid (Hb6.out.trans (hb7.mono Hb6.out.size))
      have Hcr7 := Lib.hid (Hcr6.out.below hb7)
      have hs7 := lsame_any A6 A7 c6 c7 (l'.map fun n : Nat => (n : Int)) (l'.map fun n : Nat => (n : Int)) w7 (by simp; omega) (by simp; omega) (by rw [i64z_nat]; exact reads_on Hr6.out hb7) (by rw [i64z_nat]; exact hr7)
      rw [List.length_map, decide_eq_true rfl] at hs7
      have Hs7 := Lib.hid hs7
      clear hb7 Hb6 Hx6 hr7 Hr6 hs7 Hcr6
      go_wp2_with fail
      refine Hs7.out.mono ?_
      rintro e w8 ⟨rfl, hb8⟩
      have Hb8 := Lib.hid (Hb7.out.trans (hb8.mono Hb7.out.size))
      have Hcr8 := Lib.hid (Hcr7.out.below hb8)
      have Hre8 := Lib.hid (Hrest.out w8.drew bx Hcr8.out.drew)
      clear hb8 Hb7 Hs7 Hrest Hcr7
      go_wp2_with fail
      go_region_held3 (fun _ => True) (trivial) ((go_at_call 19; (with_reducible refine Hre8.out.mono ?_); rintro e w9 ⟨rfl, hg9⟩; have Hg9 := Lib.hid hg9; clear hg9))
      have Hb9 := Lib.hid (Hb8.out.drew.grown Hg9.out Hb8.out.size (fun x e => by injection e with e; omega))
      clear Hg9 Hre8 Hb8 Hcr8
      go_wp2
      go_ret
      exact ⟨rfl, Hb9.out⟩
  | true =>
    have hW : Bm.WholeI l := of_decide_eq_true Hwb.out.symm
    have hTe := HT2.out rfl
    obtain ⟨el, h11, hlen⟩ := Bm.lenR_nat l hW.1
    have hWn := hW.2
    obtain ⟨hws, hw0⟩ := Bm.whole_short _ hWn
    have hrt := Bm.read_table (l.map Int.toNat) [120] hWn
    have hTlt := Bm.tableL_lt _ hws.2.1 hws.1
    have hTlen := Bm.tableL_length (Bm.shortL (l.map Int.toNat))
    rw [← hTe] at hrt hTlt hTlen
    have hrs : ∀ W, Below w.heap.size w W → Reads W A (i64s (l.map Int.toNat)) := fun W hb => by rw [← i64z_nat, ← el]; exact reads_on Hr.out hb
    have hx := fun W (hb : Below w.heap.size w W) => xtable_any A c (l.map Int.toNat) W (by rw [hlen]; exact hl) h11 hw0 (by rw [hlen]; exact hc) (hrs W hb)
    rw [← hTe, hlen] at hx
    have Hx := Lib.hid hx
    have hsh := fun W (hb : Below w.heap.size w W) => short_of A c (l.map Int.toNat) W (by rw [hlen]; omega) (by rw [hlen]; exact hc) (hrs W hb)
    rw [hlen] at hsh
    have Hsh := Lib.hid hsh
    have hshl : (Bm.shortL (l.map Int.toNat)).length ≤ 256 := hws.1
    have hadd : ∀ W : World, (Op.stringOp .add (strOf T) ⟨#[120]⟩).run Try.prog W = .ok (.string (strOf (T ++ [120]))) W := fun W => str_add T [120] (by simp; omega) W
    have Hrd0 : Hid (∀ W b, CR W b (some (T ++ [120])) → Calls Try.prog 15 #[.pointer (some ⟨b, 0, none⟩)] W fun e w' => ∃ A c, e = .returned (.tuple #[.slice A (Bm.shortL (l.map Int.toNat)).length c, .bool true]) ∧ Reads w' A (i64s (Bm.shortL (l.map Int.toNat))) ∧ CR w' b (some [120]) ∧ W.grownBy w' (some b)) := Lib.hid (fun W b hcr => by
      have h := Hread.out W b (T ++ [120]) (by simp; omega) (append_lt hTlt (by simp)) hcr
      rw [hrt] at h
      exact h.mono fun e w' ⟨⟨A, c, he, hr, hc⟩, hg⟩ => ⟨A, c, he, hr, by
        have e2 : (T ++ [120]).drop T.length = [120] := List.drop_left
        simp only [e2] at hc
        exact hc, hg⟩)
    have Hnew0 := Lib.hid (cnew_any (T ++ [120]) w2)
    have hse : ((strOf T).toList == (strOf T).toList) = true := by simp
    have hx1 : ((strOf [120]).toList == ([120] : List UInt8)) = true := by rw [strOf_toList]; decide
    have Hrest0 := Lib.hid (fun W b (h : CR W b (some [120])) => (rrest_any b (some [120]) W h).mono fun e w' ⟨h1, _, h3⟩ => (show e = Ending.returned (.string (strOf [120])) ∧ W.grownBy w' (some b) from ⟨h1, h3⟩))
    clear hW hTe el h11 hWn hws hw0 hrt hTlt hTlen hrs hx hsh hlen
    generalize Bm.shortL (l.map Int.toNat) = sl at *
    generalize strOf (T ++ [120]) = stx at *
    generalize strOf T = st at *
    generalize strOf [120] = sx at *
    go_wp2_with fail
    refine Hnew0.out.mono ?_
    rintro e w3 ⟨rfl, hcr3, hb3⟩
    have Hb3a := Lib.hid (Hb2.out.trans (hb3.mono Hb2.out.size))
    have Hrd3 := Lib.hid (Hrd0.out w3 _ hcr3)
    have hsx3 := Hb2.out.size
    have hlt3 := hcr3.lt
    obtain ⟨by', hby⟩ : ∃ x, x = w2.heap.size := ⟨_, rfl⟩
    rw [← hby] at Hrd3 hsx3 hlt3 ⊢
    clear hb3 hcr3 Hnew0 Hrd0 hby
    go_wp2_with fail
    refine Hrd3.out.mono ?_
    rintro e w4 ⟨A4, c4, rfl, hr4, hcr4, hg4⟩
    have hs4 := hg4.size
    have Hb4 := Lib.hid (Hb3a.out.grown hg4 Hb3a.out.size (fun x e => by injection e with e; omega))
    have Hx4 := Lib.hid (Hx.out w4 Hb4.out)
    have Hr4 := Lib.hid hr4
    have Hcr4 := Lib.hid hcr4
    clear hg4 Hrd3 Hb3a Hx hr4 hcr4
    go_wp2_with fail
    refine Hx4.out.mono ?_
    rintro e w5 ⟨rfl, hb5⟩
    have Hb5z := Lib.hid (Hb4.out.trans (hb5.mono Hb4.out.size))
    obtain ⟨hs5a, hs5b⟩ := Hsh.out w5 Hb5z.out
    have Hs5 := Lib.hid hs5a
    have hsm := lsame_any A4 A c4 c (sl.map fun n : Nat => (n : Int)) (sl.map fun n : Nat => (n : Int)) w5 (by simp; omega) (by simp; omega) (by rw [i64z_nat]; exact reads_on Hr4.out hb5) (by rw [i64z_nat]; exact hs5b)
    rw [List.length_map, decide_eq_true rfl] at hsm
    have Hsm := Lib.hid hsm
    have Hcr5 := Lib.hid (Hcr4.out.below hb5)
    clear hb5 Hb4 Hx4 Hsh Hr4 Hcr4 hs5a hs5b hsm
    go_wp2_with fail
    refine Hs5.out.mono ?_
    rintro e w' ⟨rfl, rfl⟩
    go_wp2_with fail
    refine Hsm.out.mono ?_
    rintro e w6 ⟨rfl, hb6⟩
    have Hb6z := Lib.hid (Hb5z.out.trans (hb6.mono Hb5z.out.size))
    have Hre6 := Lib.hid (Hrest0.out w6 by' (Hcr5.out.below hb6))
    have hs6z := hb6.size
    clear hb6 Hb5z Hs5 Hsm Hcr5 Hrest0
    go_wp2_with fail
    refine Hre6.out.mono ?_
    rintro e wN ⟨rfl, hgN⟩
    have HbN := Lib.hid (Hb6z.out.grown hgN Hb6z.out.size (fun x e => by injection e with e; omega))
    clear hgN Hb6z Hre6
    have Hnew := Lib.hid (cnew_any s wN)
    cases hrl : Bm.readL s with
    | none =>
      have Hxr : Hid (∀ W, Calls Try.prog 20 #[.string (strOf s)] W fun e w' => e = .returned (.tuple #[.slice none 0 0, .int .i64 0]) ∧ Below W.heap.size W w') := Lib.hid (fun W => by
        have h := xread_any s W (by omega) Hlt.out
        rw [hrl] at h
        exact h)
      have Hrd : Hid (∀ W b, CR W b (some s) → Calls Try.prog 15 #[.pointer (some ⟨b, 0, none⟩)] W fun e w' => ∃ A c, e = .returned (.tuple #[.slice A 0 c, .bool false]) ∧ W.grownBy w' (some b)) := Lib.hid (fun W b hcr => by
        have h := Hread.out W b s (by omega) Hlt.out hcr
        rw [hrl] at h
        exact h.mono fun e w' ⟨⟨A, c, he⟩, hg⟩ => ⟨A, c, he, hg⟩)
      clear hrl Hread Hr Hok Hwb HT2
      generalize strOf s = ss at *
      go_wp2_with fail
      refine Hnew.out.mono ?_
      rintro e w5 ⟨rfl, hcr5, hb5⟩
      have Hb5 := Lib.hid (HbN.out.trans (hb5.mono HbN.out.size))
      have Hrd5 := Lib.hid (Hrd.out w5 _ hcr5)
      have hsx5 := HbN.out.size
      clear hb5 hcr5 Hnew Hrd
      go_wp2_with fail
      refine Hrd5.out.mono ?_
      rintro e w6 ⟨A6, c6, rfl, hg6⟩
      have Hb6 := Lib.hid (Hb5.out.grown hg6 Hb5.out.size (fun x e => by injection e with e; omega))
      have Hx6 := Lib.hid (Hxr.out w6)
      clear hg6 Hrd5 Hb5 Hxr
      go_wp2_with fail
      refine Hx6.out.mono ?_
      rintro e w7 ⟨rfl, hb7⟩
      have Hb7 := Lib.hid (Hb6.out.trans (hb7.mono Hb6.out.size))
      have Hs7 : Hid (Calls Try.prog 17 #[.slice A6 0 c6, .slice none 0 0] w7 fun e w' => e = .returned (.bool true) ∧ Below w7.heap.size w7 w') := Lib.hid (lsame_any A6 none c6 0 [] [] w7 (by simp) (by simp) (fun h => absurd rfl h) (fun h => absurd rfl h))
      clear hb7 Hb6 Hx6
      go_wp2_with fail
      refine Hs7.out.mono ?_
      rintro e w8 ⟨rfl, hb8⟩
      have Hb8 := Lib.hid (Hb7.out.trans (hb8.mono Hb7.out.size))
      clear hb8 Hb7 Hs7
      go_wp2_with fail
      go_quiet (fail)
      go_wp2
      go_ret
      exact ⟨rfl, below_drewN Hb8.out _⟩
    | some t =>
      obtain ⟨l', at'⟩ := t
      obtain ⟨ha1, ha2, _⟩ := Bm.readL_at s l' at' hrl
      have Hxr : Hid (∀ W, Calls Try.prog 20 #[.string (strOf s)] W fun e w' => ∃ A c, e = .returned (.tuple #[.slice A l'.length c, .int .i64 (at' : Int)]) ∧ Reads w' A (i64s l') ∧ Below W.heap.size W w') := Lib.hid (fun W => by
        have h := xread_any s W (by omega) Hlt.out
        rw [hrl] at h
        exact h.mono fun e w' ⟨⟨A, c, he, hr⟩, hb⟩ => ⟨A, c, he, hr, hb⟩)
      have Hrd : Hid (∀ W b, CR W b (some s) → Calls Try.prog 15 #[.pointer (some ⟨b, 0, none⟩)] W fun e w' => ∃ A c, e = .returned (.tuple #[.slice A l'.length c, .bool true]) ∧ Reads w' A (i64s l') ∧ CR w' b (some (s.drop at')) ∧ W.grownBy w' (some b)) := Lib.hid (fun W b hcr => by
        have h := Hread.out W b s (by omega) Hlt.out hcr
        rw [hrl] at h
        exact h.mono fun e w' ⟨⟨A, c, he, hr, hc⟩, hg⟩ => ⟨A, c, he, hr, hc, hg⟩)
      have hl257 : l'.length ≤ 1000 := by
        have h2 : s[0]?.getD 0 ≤ 255 := by
          cases h0 : s[0]? with
          | none => simp
          | some x => have := Hlt.out x (List.mem_of_getElem? h0); simp; omega
        omega
      have hcut := fun W => str_from s at' ha1 W
      have da : decide (0 < (at' : Int)) = true := decide_eq_true (by omega)
      have hee : ((strOf (s.drop at')).toList == (strOf (s.drop at')).toList) = true := by simp
      have Hrest := Lib.hid (fun W b (h : CR W b (some (s.drop at'))) => (rrest_any b (some (s.drop at')) W h).mono fun e w' ⟨h1, _, h3⟩ => (show e = Ending.returned (.string (strOf (s.drop at'))) ∧ W.grownBy w' (some b) from ⟨h1, h3⟩))
      clear hrl Hread Hr Hok Hwb HT2
      generalize strOf (s.drop at') = sr at *
      generalize strOf s = ss at *
      go_wp2_with fail
      refine Hnew.out.mono ?_
      rintro e w5 ⟨rfl, hcr5, hb5⟩
      have Hb5 := Lib.hid (HbN.out.trans (hb5.mono HbN.out.size))
      have Hrd5 := Lib.hid (Hrd.out w5 _ hcr5)
      have hsx5 := HbN.out.size
      have hlt5 := hcr5.lt
      obtain ⟨bx, hbx⟩ : ∃ x, x = wN.heap.size := ⟨_, rfl⟩
      rw [← hbx] at Hrd5 hsx5 hlt5 ⊢
      clear hb5 hcr5 Hnew Hrd hbx
      go_wp2_with fail
      refine Hrd5.out.mono ?_
      rintro e w6 ⟨A6, c6, rfl, hr6, hcr6, hg6⟩
      have hs6 := hg6.size
      have Hb6 := Lib.hid (Hb5.out.grown hg6 Hb5.out.size (fun x e => by injection e with e; omega))
      have Hx6 := Lib.hid (Hxr.out w6)
      have Hr6 := Lib.hid hr6
      have Hcr6 := Lib.hid hcr6
      clear hg6 Hrd5 Hb5 Hxr hr6 hcr6
      go_wp2_with fail
      refine Hx6.out.mono ?_
      rintro e w7 ⟨A7, c7, rfl, hr7, hb7⟩
      have Hb7 := Lib.hid (Hb6.out.trans (hb7.mono Hb6.out.size))
      have Hcr7 := Lib.hid (Hcr6.out.below hb7)
      have hs7 := lsame_any A6 A7 c6 c7 (l'.map fun n : Nat => (n : Int)) (l'.map fun n : Nat => (n : Int)) w7 (by simp; omega) (by simp; omega) (by rw [i64z_nat]; exact reads_on Hr6.out hb7) (by rw [i64z_nat]; exact hr7)
      rw [List.length_map, decide_eq_true rfl] at hs7
      have Hs7 := Lib.hid hs7
      clear hb7 Hb6 Hx6 hr7 Hr6 hs7 Hcr6
      go_wp2_with fail
      refine Hs7.out.mono ?_
      rintro e w8 ⟨rfl, hb8⟩
      have Hb8 := Lib.hid (Hb7.out.trans (hb8.mono Hb7.out.size))
      have Hcr8 := Lib.hid (Hcr7.out.below hb8)
      have Hre8 := Lib.hid (Hrest.out w8.drew bx Hcr8.out.drew)
      clear hb8 Hb7 Hs7 Hrest Hcr7
      go_wp2_with fail
      go_region_held3 (fun _ => True) (trivial) ((go_at_call 19; (with_reducible refine Hre8.out.mono ?_); rintro e w9 ⟨rfl, hg9⟩; have Hg9 := Lib.hid hg9; clear hg9))
      have Hb9 := Lib.hid (Hb8.out.drew.grown Hg9.out Hb8.out.size (fun x e => by injection e with e; omega))
      clear Hg9 Hre8 Hb8 Hcr8
      go_wp2
      go_ret
      exact ⟨rfl, Hb9.out⟩
end Go.Proofs.Ytgkkbegkeliebaa

namespace Go.Proofs.Ytgkkbegkeliebaa
open Go.RowKit
namespace Bm
theorem count_sum10 (f : Nat → Nat) (T : Nat) : ∀ bs : List Nat, (∀ b ∈ bs, b < T) → ((List.range T).map fun i => bs.count i * f i).sum = (bs.map f).sum
  | [], _ => by
    simp only [List.count_nil, Nat.zero_mul, List.map_nil, List.sum_nil]
    induction List.range T with
    | nil => rfl
    | cons a L ih => simpa using ih
  | b :: bs, h => by
    have ih := count_sum10 f T bs (fun x hx => h x (List.mem_cons_of_mem _ hx))
    have hb := h b List.mem_cons_self
    have e : ((List.range T).map fun i => (b :: bs).count i * f i) = (List.range T).map fun i => bs.count i * f i + (if i = b then f b else 0) := by
      refine List.map_congr_left fun i _ => ?_
      rw [List.count_cons, Nat.add_mul]
      by_cases hi : i = b
      · subst hi; simp
      · rw [if_neg hi, if_neg (by simpa using fun e : b = i => hi e.symm), Nat.zero_mul]
    rw [e, sum_map_add (fun i => bs.count i * f i) (fun i => if i = b then f b else 0), ih, sum_single, if_pos hb, List.map_cons, List.sum_cons, Nat.add_comm]
theorem cost_counts (bs ls : List Nat) : costN (countsOf bs) ls = codeLen ls bs := by
  unfold costN codeLen
  rw [← count_sum10 (fun b => ls[b]?.getD 0) (topB bs) bs (fun b hb => topB_mem bs b hb)]
  congr 1
  have hl : (countsOf bs).length = topB bs := by simp [countsOf]
  rw [hl]
  refine List.map_congr_left fun i hi => ?_
  have hi2 := List.mem_range.1 hi
  congr 1
  unfold countsOf
  rw [List.getElem?_map, List.getElem?_range hi2]
  rfl
theorem codeLen_le (ls bs : List Nat) (h : ∀ x ∈ ls, x ≤ 11) : codeLen ls bs ≤ 11 * bs.length := by
  unfold codeLen
  induction bs with
  | nil => simp
  | cons b bs ih =>
    have h3 := get_le h b
    rw [List.map_cons, List.sum_cons, List.length_cons]
    omega
end Bm

set_option maxHeartbeats 1000000 in
set_option maxRecDepth 100000 in
theorem lcosts_long (hE : LEncOk) (hD : LDecOk) (A : Option Addr) (n c : Nat) (w : World) (h : 200 < n ∨ n = 0) (hn : n ≤ 9223372036854775807) :
    Calls Try.prog 6 #[.slice A n c] w fun e w' => e = .returned (.bool true) ∧ Below w.heap.size w w' := by
  have Haw := Lib.hid (lawake_of hE hD w)
  clear hE hD
  rcases h with h | rfl
  · go_enter Try.func6, Try.ntmps6
    go_wp2_with fail
    refine Haw.out.mono ?_
    rintro e w1 ⟨rfl, hb1⟩
    have Hb1 := Lib.hid hb1
    clear hb1
    go_wp2
    go_ret
    exact ⟨rfl, Hb1.out⟩
  · go_enter Try.func6, Try.ntmps6
    go_wp2_with fail
    refine Haw.out.mono ?_
    rintro e w1 ⟨rfl, hb1⟩
    have Hb1 := Lib.hid hb1
    clear hb1
    go_wp2
    go_ret
    exact ⟨rfl, Hb1.out⟩

set_option maxHeartbeats 1000000 in
set_option maxRecDepth 100000 in
theorem lcosts_short (hO : COf) (hL : HLens) (hC : HCost) (hE : LEncOk) (hD : LDecOk) (A : Option Addr) (c : Nat) (bs : List Nat) (w : World) (hb : bs.length ≤ 200) (h0 : 0 < bs.length) (hc : bs.length ≤ c) (hlt : ∀ x ∈ bs, x < 256) (hr : Reads w A (u8s bs)) :
    Calls Try.prog 6 #[.slice A bs.length c] w fun e w' => e = .returned (.bool true) ∧ Below w.heap.size w w' := by
  have Haw := Lib.hid (lawake_of hE hD w)
  have Hof := Lib.hid (fun W (h : Below w.heap.size w W) => hO A c bs W (by omega) hlt (reads_on hr h))
  have hright := Bm.countsI_right bs hlt (by omega) h0
  have hcs : (Bm.countsI bs).map Int.toNat = Bm.countsOf bs := by
    unfold Bm.countsI
    rw [List.map_map]
    conv => rhs; rw [← List.map_id (Bm.countsOf bs)]
    exact List.map_congr_left fun x _ => rfl
  have htop := Bm.topB_le bs hlt
  have hlen : (Bm.countsOf bs).length = Bm.topB bs := by simp [Bm.countsOf]
  have Hlens := Lib.hid (fun W B d (h : Reads W B (i64s (Bm.countsOf bs))) => by
    have h1 := hL W B d (Bm.countsI bs) (by rw [Bm.countsI_length]; omega) (fun x hx => by have := Bm.countsI_mem bs x hx; constructor <;> omega) (by unfold Bm.countsI; rw [i64z_nat]; exact h) hright
    rw [Bm.countsI_length, hcs] at h1
    exact h1)
  have h20 : ∀ x ∈ Bm.countsOf bs, x ≤ 1048576 := fun x hx => by
    have := hright.2.1 (x : Int) (by unfold Bm.countsI; exact List.mem_map.2 ⟨x, hx, rfl⟩)
    omega
  have hex : ∃ x ∈ Bm.countsOf bs, 0 < x := by
    obtain ⟨z, hz, hp⟩ := hright.2.2
    unfold Bm.countsI at hz
    obtain ⟨n, hn, rfl⟩ := List.mem_map.1 hz
    exact ⟨n, hn, by omega⟩
  have Hcost := Lib.hid (fun W B B' d d' (ls : List Nat) (hll : ls.length = Bm.topB bs) (h11 : ∀ x ∈ ls, x ≤ 11) (h : Reads W B (i64s (Bm.countsOf bs))) (h' : Reads W B' (i64s ls)) => by
    have h1 := hC W B B' d d' (Bm.countsOf bs) ls (by rw [hlen]; exact htop) (by rw [hlen]; exact hll) h20 hex h11 h h'
    rw [hlen, hll] at h1
    exact h1)
  have hcnt : ∀ b ∈ bs, 0 < (Bm.countsOf bs)[b]?.getD 0 := fun b hb => by
    unfold Bm.countsOf
    rw [List.getElem?_map, List.getElem?_range (Bm.topB_mem bs b hb)]
    exact List.count_pos_iff.2 hb
  have Hcv := Lib.hid (fun W A' c' (h : Reads W A' (u8s bs)) => conv_bytes W A' c' bs hlt h)
  have Henc := Lib.hid (fun W B d (ls : List Nat) (hd : ls.length ≤ d) (hll : ls.length ≤ 256) (h11 : ∀ x ∈ ls, x ≤ 11) (h : Below w.heap.size w W) (h' : Reads W B (i64s ls)) => by
    have h1 := hE W B A d c (ls.map fun n : Nat => (n : Int)) bs (by rw [List.length_map]; omega) (by rw [List.length_map]; exact hd) (fun x hx => by obtain ⟨n, hn, rfl⟩ := List.mem_map.1 hx; have := h11 n hn; constructor <;> omega) (by omega) hc hlt (by rw [i64z_nat]; exact h') (reads_on hr h)
    rw [List.length_map] at h1
    exact h1)
  have Hdec := Lib.hid (fun W B d (ls s : List Nat) (hd : ls.length ≤ d) (hll : ls.length ≤ 256) (h11 : ∀ x ∈ ls, x ≤ 11) (h1 : s.length ≤ 1000) (h2 : ∀ x ∈ s, x < 256) (h' : Reads W B (i64s ls)) => by
    have h1 := hD W B d (ls.map fun n : Nat => (n : Int)) s (bs.length : Int) (by rw [List.length_map]; omega) (by rw [List.length_map]; exact hd) (fun x hx => by obtain ⟨n, hn, rfl⟩ := List.mem_map.1 hx; have := h11 n hn; constructor <;> omega) h1 h2 (by constructor <;> omega) (by rw [i64z_nat]; exact h')
    rw [List.length_map] at h1
    exact h1)
  have hmap : ∀ ls : List Nat, (ls.map fun n : Nat => (n : Int)).map Int.toNat = ls := fun ls => by
    rw [List.map_map]
    conv => rhs; rw [← List.map_id ls]
    exact List.map_congr_left fun x _ => rfl
  have Hmap := Lib.hid hmap
  have Hcc := Lib.hid (Bm.cost_counts bs)
  have Hcl := Lib.hid (fun ls h => Bm.codeLen_le ls bs h)
  have Hcnt := Lib.hid hcnt
  have Hr := Lib.hid hr
  clear hO hL hC hE hD hright hcs h20 hex hr hcnt hlt hmap
  have d1 : decide (200 < (bs.length : Int)) = false := decide_eq_false (by omega)
  have d2 : ((bs.length : Int) == 0) = false := by rw [beq_eq_false_iff_ne]; omega
  go_enter Try.func6, Try.ntmps6
  go_wp2_with fail
  refine Haw.out.mono ?_
  rintro e w1 ⟨rfl, hb1⟩
  have Ho1 := Lib.hid (Hof.out w1 hb1)
  have Hb1 := Lib.hid hb1
  clear hb1 Haw Hof
  go_wp2_with fail
  refine Ho1.out.mono ?_
  rintro e w2 ⟨A2, c2, rfl, hr2, hb2⟩
  have Hb2 := Lib.hid (Hb1.out.trans (hb2.mono Hb1.out.size))
  have Hl2 := Lib.hid (Hlens.out w2 A2 c2 hr2)
  have Hr2 := Lib.hid hr2
  clear hb2 hr2 Hb1 Ho1 Hlens
  go_wp2_with fail
  refine Hl2.out.mono ?_
  rintro e w3 ⟨A3, c3, ls, rfl, hc3, hr3, hgood, hb3⟩
  have hll : ls.length = Bm.topB bs := by rw [hgood.len, hlen]
  have hl256 : ls.length ≤ 256 := by rw [hll]; exact htop
  have h11 := hgood.whole.2.1
  have hfit := hgood.fit
  have hpos : ∀ b ∈ bs, 0 < ls[b]?.getD 0 := fun b hb => hfit b (by rw [hlen]; exact Bm.topB_mem bs b hb) (Hcnt.out b hb)
  obtain ⟨t, ht⟩ := Bm.encS_some ls bs hpos
  have htl := Bm.encS_length ls bs t ht
  have hcl := Hcl.out ls h11
  have henc : Bm.encT ls bs = some (Bm.packS t) := by rw [Bm.encT, ht]; rfl
  have hdec := Bm.dec_encT ls bs (Bm.packS t) hgood.whole henc
  have hpl := Bm.packS_length t
  have hp256 := Bm.packS_lt t
  have hWI : Bm.WholeI (ls.map fun n : Nat => (n : Int)) := (whole_nat ls).2 hgood.whole
  have hco := fun W h => Hcost.out W A2 A3 c2 c3 ls hll h11 h
  have hcv : costV (Bm.countsOf bs) ls = .tuple #[.int .i64 (t.length : Int), .bool true] := by
    unfold costV
    rw [if_pos hfit, decide_eq_true hfit, Hcc.out ls, htl]
  rw [hcv] at hco
  have hen := fun W h h' => Henc.out W A3 c3 ls (by omega) hl256 h11 h h'
  rw [if_pos hWI, Hmap.out, henc] at hen
  unfold strV at hen
  dsimp only at hen
  have hde := fun W h' => Hdec.out W A3 c3 ls (Bm.packS t) (by omega) hl256 h11 (by omega) hp256 h'
  rw [if_pos ⟨hWI, by omega, by omega⟩, Int.toNat_natCast, Hmap.out, hdec] at hde
  have hsl := strOf_size (Bm.packS t)
  rw [hpl] at hsl
  have hq : ((t.length : Int) + 7) / 8 = (((t.length + 7) / 8 : Nat) : Int) := by omega
  have ht2 : t.length ≤ 2200 := by omega
  have Hb3 := Lib.hid (Hb2.out.trans (hb3.mono Hb2.out.size))
  have Hr3 := Lib.hid hr3
  have Hco := Lib.hid (hco w3 (reads_on Hr2.out hb3) hr3)
  have Hen := Lib.hid hen
  have Hde := Lib.hid hde
  rw [hll] at Hen Hde
  clear hb3 hr3 hgood hfit hpos ht htl hcl henc hdec hpl hp256 hWI hco hcv hen hde Hcost Henc Hdec Hl2 Hb2 Hr2 Hcnt hl256 h11 Hmap Hcc Hcl
  generalize strOf (Bm.packS t) = ss at *
  generalize t.length = tl at *
  have hq2 : (tl + 7) / 8 ≤ 300 := by omega
  generalize (tl + 7) / 8 = q at *
  go_wp2_with fail
  refine Hco.out.mono ?_
  rintro e w4 ⟨rfl, hb4⟩
  have Hb4 := Lib.hid (Hb3.out.trans (hb4.mono Hb3.out.size))
  have hr4 := reads_on Hr3.out hb4
  have He4 := Lib.hid (Hen.out w4 Hb4.out hr4)
  have Hr4 := Lib.hid hr4
  clear hb4 hr4 Hb3 Hr3 Hen Hco
  go_wp2_with fail
  refine He4.out.mono ?_
  rintro e w5 ⟨rfl, hb5⟩
  have Hb5 := Lib.hid (Hb4.out.trans (hb5.mono Hb4.out.size))
  have Hd5 := Lib.hid (Hde.out w5 (reads_on Hr4.out hb5))
  clear hb5 Hb4 He4 Hr4 Hde
  go_wp2_with fail
  refine Hd5.out.mono ?_
  rintro e w6 ⟨⟨A6, c6, rfl, _, hr6⟩, hb6⟩
  have Hb6 := Lib.hid (Hb5.out.trans (hb6.mono Hb5.out.size))
  have k1 := Hcv.out w6 A6 c6 hr6
  have k2 := Hcv.out w6 A c (reads_on Hr.out Hb6.out)
  have hbb : ((strOf bs).toList == (strOf bs).toList) = true := by simp
  clear hb6 Hb5 Hd5 hr6 Hcv
  generalize strOf bs = sb at *
  go_wp2
  go_ret
  exact ⟨rfl, Hb6.out⟩
end Go.Proofs.Ytgkkbegkeliebaa
