/-
  NewReader and Take (layer 1), by their walks: a Reader's bits, read from the first one on. Conditions: as each theorem's premises say (up to a hundred million bytes).
-/
import Derived.Test.YtefcahmhfjblpaaWb
namespace Go.Proofs.Ytefcahmhfjblpaa
open Go.RowKit

set_option maxHeartbeats 400000 in
set_option maxRecDepth 100000 in
theorem newr_any (A : Option Addr) (c : Nat) (bs : List Nat) (w : World) (hbs : ∀ b ∈ bs, b < 256) (hr : Reads w A (u8s bs)) :
    Calls Try.prog 16 #[.slice A bs.length c] w fun e w' => e = .returned (.pointer (some ⟨w.heap.size, 0, none⟩)) ∧ RS w' w.heap.size 0 bs 0 ∧ Below w.heap.size w w' := by
  have hconv := conv_bytes w A c bs hbs hr
  clear hbs hr
  go_enter Try.func16, Try.ntmps16
  go_wp2
  go_ret
  have hrow := Row.new w 60 [.string (strOf bs), .int .i64 0]
  exact ⟨rfl, ⟨hrow.cell 0, hrow.cell 1, hrow.free 1, hrow.lt⟩, (Below.refl _ _).alloc (Nat.le_refl _) _⟩

set_option maxHeartbeats 400000 in
set_option maxRecDepth 100000 in
theorem take_bad (a : Addr) (m : Int) (w : World) (h : m < 0 ∨ 32 < m) :
    Calls Try.prog 17 #[.pointer (some a), .int .i64 m] w fun e w' => e = .returned (.tuple #[.int .u32 0, .bool false]) ∧ w = w' := by
  rcases h with h | h
  · go_enter Try.func17, Try.ntmps17
    go_wp2
    go_ret2
    exact ⟨rfl, rfl⟩
  · go_enter Try.func17, Try.ntmps17
    go_wp2
    go_ret2
    exact ⟨rfl, rfl⟩

set_option maxHeartbeats 400000 in
set_option maxRecDepth 100000 in
theorem take_few (b off : Nat) (bs : List Nat) (pos m : Nat) (w : World) (hs : bs.length ≤ 100000000) (hp : pos ≤ 8 * bs.length) (hm : m ≤ 32) (hfew : 8 * bs.length - pos < m) (h : RS w b off bs pos) :
    Calls Try.prog 17 #[.pointer (some ⟨b, off, none⟩), .int .i64 (m : Int)] w fun e w' => e = .returned (.tuple #[.int .u32 0, .bool false]) ∧ ∃ k, w' = w.drewN k := by
  have hl := left_any b off bs pos w (by omega) hp h
  have Hl := Lib.hid hl
  clear hl h
  generalize 8 * bs.length - pos = lft at Hl hfew
  have hlt : (lft : Int) < (m : Int) := by omega
  go_enter Try.func17, Try.ntmps17
  go_wp2_with fail
  refine Hl.out.mono ?_
  rintro e w' ⟨rfl, kk, rfl⟩
  go_wp2
  go_ret2
  exact ⟨rfl, _, rfl⟩

theorem or_take (x b k : Nat) (hx : x < 256 ^ k) (hb : b < 256) (hk : k < 5) : bits .or .u64 (x : Int) (IntKind.u64.wrap ((b : Int) * 2 ^ (8 * k))) = ((x + b * 256 ^ k : Nat) : Int) := by
  have hp : 256 ^ k ≤ 256 ^ 4 := Nat.pow_le_pow_right (by omega) (by omega)
  have h4 : (256 : Nat) ^ 4 = 4294967296 := by decide
  rw [or_val _ _ _ (by omega)]
  have h1 := Bm.or_sum (8 * k) x b (by rw [← Bm.p256]; exact hx)
  have h2 : b * 2 ^ (8 * k) < 2 ^ 64 := by
    rw [← Bm.p256]
    have := Nat.mul_le_mul (show b ≤ 255 by omega) hp
    omega
  rw [Nat.mod_eq_of_lt h2, h1, Bm.p256]

theorem take_step (bs : List Nat) (f k : Nat) (hfk : f ≤ k) (hk : k < bs.length) (h5 : k < f + 5) (h : ∀ x ∈ bs, x < 256) :
    bits .or .u64 ((Bm.valB ((bs.drop f).take (k - f)) : Nat) : Int) (IntKind.u64.wrap ((bs[k] : Int) * 2 ^ (8 * (k - f)))) = ((Bm.valB ((bs.drop f).take (k + 1 - f)) : Nat) : Int) := by
  have hl : ((bs.drop f).take (k - f)).length = k - f := by rw [List.length_take, List.length_drop]; omega
  have hlt := Bm.valB_lt ((bs.drop f).take (k - f)) (fun x hx => h x (List.mem_of_mem_drop (List.mem_of_mem_take hx)))
  rw [hl] at hlt
  rw [or_take _ _ _ hlt (h _ (List.getElem_mem hk)) (by omega)]
  have hg : k - f < (bs.drop f).length := by rw [List.length_drop]; omega
  have e : (bs.drop f)[k - f] = bs[k] := by rw [List.getElem_drop]; congr 1; omega
  rw [show k + 1 - f = (k - f) + 1 by omega, List.take_succ_eq_append_getElem hg, Bm.valB_snoc, hl, e]
theorem rs_step {w : World} {b off pos : Nat} {bs : List Nat} (h : RS w b off bs pos) (kk m : Nat) : RS ((w.setCell ⟨b, off + 1, none⟩ (.int .i64 ((pos + m : Nat) : Int))).drewN kk) b off bs (pos + m) := by
  have h1 : RS (w.setCell ⟨b, off + 1, none⟩ (.int .i64 ((pos + m : Nat) : Int))) b off bs (pos + m) := by
    obtain ⟨h0, h1, h2, h3⟩ := h
    refine ⟨?_, World.cell?_setCell_same _ _ _ h1, by simpa using h2, by simpa using h3⟩
    rw [World.cell?_setCell_other _ _ _ _ (by intro e; injection e with _ e _; omega)]
    exact h0
  exact h1.drewN kk

set_option maxHeartbeats 1000000 in
set_option maxRecDepth 100000 in
theorem take_ok (b off : Nat) (bs : List Nat) (pos m : Nat) (w : World) (hs : bs.length ≤ 100000000) (hbs : ∀ x ∈ bs, x < 256) (hm : m ≤ 32) (hle : pos + m ≤ 8 * bs.length) (h : RS w b off bs pos) :
    Calls Try.prog 17 #[.pointer (some ⟨b, off, none⟩), .int .i64 (m : Int)] w fun e w' =>
      e = .returned (.tuple #[.int .u32 ((Bm.valB bs / 2 ^ pos % 2 ^ m : Nat) : Int), .bool true]) ∧ RS w' b off bs (pos + m) ∧ w.grownBy w' (some b) := by
  have hl := left_any b off bs pos w (by omega) (by omega) h
  have Hl := Lib.hid hl
  have Hrs := Lib.hid h
  obtain ⟨h0, h1, h2, _⟩ := h
  have hlt : (m : Int) ≤ ((8 * bs.length - pos : Nat) : Int) := by omega
  have hsz := strOf_size bs
  have Hbs := Lib.hid hbs
  have hidx : ∀ (i : Nat) (W : World) (hi : i < bs.length), (Instr.index 9 (.string (strOf bs)) (.int .i64 (i : Int))).run Try.prog W = .ok (.int .u8 ((bs[i] : Nat) : Int)) W := fun i W hi => index_at bs i W hi (hbs _ (List.getElem_mem hi))
  have Hidx := Lib.hid hidx
  have Hsz := Lib.hid hsz
  clear hl hbs hidx hsz
  generalize strOf bs = sb at h0 Hidx Hsz
  have hsb : sb.size ≤ 100000000 := by rw [Hsz.out]; exact hs
  generalize hlf : 8 * bs.length - pos = lft at Hl hlt
  have Hlf := Lib.hid hlf
  clear hlf
  go_enter Try.func17, Try.ntmps17
  go_wp2_with fail
  refine Hl.out.mono ?_
  rintro e w' ⟨rfl, kk, rfl⟩
  have hlt2 : ¬ lft < m := by omega
  clear Hl
  obtain ⟨f, hf⟩ : ∃ f, f = pos / 8 := ⟨_, rfl⟩
  obtain ⟨t, ht⟩ : ∃ t, t = f + min 5 (bs.length - f) := ⟨_, rfl⟩
  have hfs : (pos : Int) / 8 = (f : Int) := by omega
  have hts : min ((f : Int) + 5) (sb.size : Int) = (t : Int) := by rw [Hsz.out]; omega
  have htl : t ≤ bs.length := by omega
  have htl2 : t ≤ f + 5 := by omega
  have hft : f ≤ t := by omega
  have Hf := Lib.hid hf
  have Ht := Lib.hid ht
  have Hfs := Lib.hid hfs
  have Hts := Lib.hid hts
  clear hf ht hfs hts
  go_wp2
  rw [Hfs.out, Hts.out]
  go_loop [8, 9] (fun v i => ∃ k : Nat, f ≤ k ∧ k ≤ t ∧ i = .int .i64 (k : Int) ∧ v = .int .u64 ((Bm.valB ((bs.drop f).take (k - f)) : Nat) : Int)) (fun _ i => t - (intOf i).toNat)
  case atStart => exact ⟨f, Nat.le_refl _, hft, rfl, by rw [Nat.sub_self]; rfl⟩
  case round =>
    obtain ⟨k, hfk, hkt, rfl, rfl⟩ := hrel
    by_cases hk : k < t
    · have hx := Hidx.out k
      have hx2 := fun W => hx W (by omega)
      have hb8 := Hbs.out bs[k] (List.getElem_mem (by omega))
      clear hx
      have hstep := take_step bs f k hfk (by omega) (by omega) Hbs.out
      have Hstep := Lib.hid hstep
      clear hstep
      generalize bs[k] = x at hx2 hb8 Hstep
      go_wp2
      rw [Hstep.out]
      go_round
      case rel => exact ⟨k + 1, by omega, by omega, by go_num, rfl⟩
      case measure => simp [intOf]; omega
    · obtain rfl : k = t := by omega
      have hv := Bm.take_eq bs Hbs.out pos m (k - f) hm hle (by have h3 := Ht.out; have h4 := Hf.out; omega)
      rw [← Hf.out] at hv
      have hy : Bm.valB ((bs.drop f).take (k - f)) < 2 ^ 40 := by
        have h5 := Bm.valB_lt ((bs.drop f).take (k - f)) (fun x hx => Hbs.out x (List.mem_of_mem_drop (List.mem_of_mem_take hx)))
        have h6 : 256 ^ ((bs.drop f).take (k - f)).length ≤ 256 ^ 5 := Nat.pow_le_pow_right (by omega) (by rw [List.length_take]; omega)
        have h7 : (256 : Nat) ^ 5 = 2 ^ 40 := by decide
        omega
      generalize Bm.valB ((bs.drop f).take (k - f)) = y at hv hy
      have hd : (y : Int) / 2 ^ (pos % 8) = ((y / 2 ^ (pos % 8) : Nat) : Int) := by simp
      have hdl := Nat.div_le_self y (2 ^ (pos % 8))
      have hz : ∀ z, z = y / 2 ^ (pos % 8) → z % 2 ^ m = Bm.valB bs / 2 ^ pos % 2 ^ m := fun z hz => by rw [hz]; exact hv
      have h40 : y / 2 ^ (pos % 8) < 2 ^ 64 := by
        have : (2 : Nat) ^ 40 ≤ 2 ^ 64 := Nat.pow_le_pow_right (by omega) (by omega)
        omega
      have hm32 : Bm.valB bs / 2 ^ pos % 2 ^ m < 4294967296 := Nat.lt_of_lt_of_le (Nat.mod_lt _ (Nat.two_pow_pos m)) (Nat.pow_le_pow_right (n := 2) (j := 32) (by omega) hm)
      have Hd := Lib.hid hd
      have Hv := Lib.hid hv
      clear hv hd hz hdl hy
      go_wp2_with fail
      rw [Hd.out]
      refine (lowest_any (y / 2 ^ (pos % 8)) m _ h40 (by omega)).mono ?_
      rintro e w' ⟨rfl, rfl⟩
      rw [Hv.out]
      have hposm : (pos : Int) + (m : Int) = ((pos + m : Nat) : Int) := by omega
      have Hpm := Lib.hid hposm
      clear hposm h40
      generalize hzz : Bm.valB bs / 2 ^ pos % 2 ^ m = z at hm32
      have Hzz := Lib.hid hzz
      clear hzz
      go_wp2
      go_ret2
      rw [Hpm.out, Hzz.out]
      exact ⟨rfl, rs_step Hrs.out kk m, grown_set (grown_drewN (grown_refl _ _) _) _ _⟩
end Go.Proofs.Ytefcahmhfjblpaa
