/-
  The program's layer 16 (seqs): ends, right (slices.ContainsFunc of a closure), number, by their walks. Conditions: as each theorem's premises say.
-/
import Derived.Test.YtbdciiiimdbmkaaGreatGaf
import Derived.Test.YtbdciiiimdbmkaaGreatGah
import Derived.Test.YtbdciiiimdbmkaaGreatGay
import Derived.Test.YtbdciiiimdbmkaaGreatGaw
namespace Go.Proofs.YtbdciiiimdbmkaaGreat
open Go.RowKit

set_option maxHeartbeats 400000 in
set_option maxRecDepth 100000 in
theorem zgreat_any (c : Nat) (w : World) (hc : c < 256) : Calls Tryz.prog 74 #[.int .u8 (c : Int)] w fun e w' => e = .returned (.bool (decide (28 ≤ c))) ∧ w = w' := by
  obtain ⟨r, hr⟩ : ∃ r, r = decide (28 ≤ c) := ⟨_, rfl⟩
  have d1 : decide (28 ≤ c) = r := hr.symm
  have d2 : decide ((28 : Int) ≤ (c : Int)) = r := by rw [hr]; exact decide_eq_decide.2 (by omega)
  rw [← hr]
  clear hr
  go_enter Tryz.func74, Tryz.ntmps74
  go_wp2
  go_ret
  exact ⟨rfl, rfl⟩
theorem ent_great : ∀ args w, (callFunc 74 args).run Tryz.prog w = .ok (.enter 74 args) w := enters_of Tryz.func74 (by kernel_rfl) rfl
set_option maxHeartbeats 1000000 in
set_option maxRecDepth 100000 in
theorem zindex_any (A : Option Addr) (c : Nat) (l : List Nat) (w : World) (hl : l.length ≤ 1000000) (hlt : ∀ x ∈ l, x < 256) (hr : Reads w A (u8s l)) :
    Calls Tryz.prog 97 #[.slice A l.length c, .func (.func 74) #[] #[]] w fun e w' => (∃ r : Int, e = .returned (.int .i64 r) ∧ decide (0 ≤ r) = decide (¬ ∀ x ∈ l, x < 28)) ∧ w = w' := by
  have Hl := Lib.hid (fun a (h : a < 256) => zgreat_any a w h)
  have ec := ent_great
  have Hr := Lib.hid hr
  have Hlt := Lib.hid hlt
  obtain ⟨n, hn⟩ : ∃ n, n = l.length := ⟨_, rfl⟩
  have Hn := Lib.hid hn
  rw [← hn] at hl ⊢
  clear hr hlt hn
  go_enter Tryz.func97, Tryz.ntmps97
  go_wp2
  go_loopw [5, 8] (fun _ i wr => wr = w ∧ ∃ k : Nat, i = .int .i64 (k : Int) ∧ k ≤ n ∧ Hid (∀ x ∈ l.take k, x < 28)) (fun _ i _ => n - (intOf i).toNat)
  case atStart => exact ⟨rfl, 0, rfl, Nat.zero_le _, Lib.hid (by simp)⟩
  case round =>
    obtain ⟨rfl, k, rfl, hk, hall⟩ := hrel
    by_cases hkl : k < n
    · have hkl' : k < l.length := by rw [← Hn.out]; exact hkl
      obtain ⟨g, off, rfl, hc⟩ := reads_u8 Hr.out (by intro e; rw [e] at hkl'; simp at hkl')
      have c1 := hc k hkl'
      have hx := Hlt.out l[k] (List.getElem_mem hkl')
      have Hin := Lib.hid (List.getElem_mem hkl')
      have Htk : Hid (l.take (k + 1) = l.take k ++ [l[k]]) := Lib.hid (by rw [List.take_add_one, List.getElem?_eq_getElem hkl']; rfl)
      clear hc
      generalize l[k] = x at *
      have Hcall := Lib.hid (Hl.out x hx)
      by_cases h28 : 28 ≤ x
      · rw [decide_eq_true h28] at Hcall
        have Hres : Hid (decide (0 ≤ (k : Int)) = decide (¬ ∀ y ∈ l, y < 28)) := Lib.hid (by
          rw [decide_eq_true (by omega : (0 : Int) ≤ (k : Int)), decide_eq_true]
          exact fun h => by have := h x Hin.out; omega)
        clear hall Hl h28 Htk Hr
        go_wp2_with fail
        refine Hcall.out.mono ?_
        rintro e w' ⟨rfl, rfl⟩
        go_wp2
        go_ret
        exact ⟨⟨_, rfl, Hres.out⟩, rfl⟩
      · rw [decide_eq_false h28] at Hcall
        have Hall2 : Hid (∀ y ∈ l.take (k + 1), y < 28) := Lib.hid (fun y hy => by
          rw [Htk.out] at hy
          rcases List.mem_append.1 hy with hy | hy
          · exact hall.out y hy
          · rw [List.mem_singleton.1 hy]; omega)
        clear hall Hl h28 Htk Hr
        go_wp2_with fail
        refine Hcall.out.mono ?_
        rintro e w' ⟨rfl, rfl⟩
        go_wp2
        go_roundw
        case rel => exact ⟨trivial, k + 1, by go_num, by omega, Hall2⟩
        case measure => simp [intOf]; omega
    · have hkn : k = n := by omega
      have Hres : Hid (decide (0 ≤ (-1 : Int)) = decide (¬ ∀ y ∈ l, y < 28)) := Lib.hid (by
        have h := hall.out
        rw [hkn, Hn.out, List.take_length] at h
        rw [decide_eq_false (by omega), decide_eq_false (fun hh => hh h)])
      have dk : decide ((k : Int) < (n : Int)) = false := decide_eq_false (by omega)
      clear hall Hl hkn
      go_wp2
      go_ret
      exact ⟨⟨_, rfl, Hres.out⟩, rfl⟩
set_option maxHeartbeats 400000 in
set_option maxRecDepth 100000 in
theorem zcontains_any (A : Option Addr) (c : Nat) (l : List Nat) (w : World) (hl : l.length ≤ 1000000) (hlt : ∀ x ∈ l, x < 256) (hr : Reads w A (u8s l)) :
    Calls Tryz.prog 73 #[.slice A l.length c, .func (.func 74) #[] #[]] w fun e w' => e = .returned (.bool (decide (¬ ∀ x ∈ l, x < 28))) ∧ w = w' := by
  have Hi := Lib.hid (zindex_any A c l w hl hlt hr)
  clear hlt hr
  generalize decide (¬ ∀ x ∈ l, x < 28) = r at *
  go_enter Tryz.func73, Tryz.ntmps73
  go_wp2_with fail
  refine Hi.out.mono ?_
  rintro e w' ⟨⟨z, rfl, hz⟩, rfl⟩
  clear Hi
  go_wp2
  go_ret
  exact ⟨rfl, rfl⟩
set_option maxHeartbeats 400000 in
set_option maxRecDepth 100000 in
theorem qright_any (A : Option Addr) (c : Nat) (l : List Nat) (w : World) (hl : l.length ≤ 1000000) (hlt : ∀ x ∈ l, x < 256) (hr : Reads w A (u8s l)) :
    Calls Tryz.prog 51 #[.slice A l.length c] w fun e w' => e = .returned (.bool (decide (∀ x ∈ l, x < 28))) ∧ w = w' := by
  have hi := zcontains_any A c l w hl hlt hr
  have hd : decide (¬ ∀ x ∈ l, x < 28) = !decide (∀ x ∈ l, x < 28) := decide_not
  rw [hd] at hi
  have Hi := Lib.hid hi
  clear hlt hr hi hd
  generalize decide (∀ x ∈ l, x < 28) = r at *
  go_enter Tryz.func51, Tryz.ntmps51
  go_wp2_with fail
  refine Hi.out.mono ?_
  rintro e w' ⟨rfl, rfl⟩
  clear Hi
  cases r <;>
  · go_wp2
    go_ret
    exact ⟨rfl, rfl⟩

set_option maxHeartbeats 1000000 in
set_option maxRecDepth 100000 in
/-- Is nothing left but noughts up to the end of a byte? -/
theorem zends_any (b pos : Nat) (bs : List Nat) (w : World) (hs : bs.length ≤ 100000) (hbs : ∀ x ∈ bs, x < 256) (hp : pos ≤ 8 * bs.length) (h : RS w b 0 bs pos) :
    Calls Tryz.prog 55 #[.pointer (some ⟨b, 0, none⟩)] w fun e w' => e = .returned (.bool (decide (8 * bs.length - pos < 8 ∧ Bm.valB bs / 2 ^ pos = 0))) ∧ w.grownBy w' (some b) := by
  obtain ⟨m, hm⟩ : ∃ m, m = 8 * bs.length - pos := ⟨_, rfl⟩
  have hle : Calls Tryz.prog 79 #[.pointer (some ⟨b, 0, none⟩)] w fun e w' => e = .returned (.int .i64 (m : Int)) ∧ ∃ k, w' = w.drewN k := by rw [hm]; exact left_any b 0 bs pos w (by omega) hp h
  have Hle := Lib.hid hle
  rw [← hm]
  by_cases h8 : m < 8
  · have ht := fun k => (take_ok b 0 bs pos m (w.drewN k) (by omega) hbs (by omega) (by omega) (h.drewN k)).mono fun e w' (hh : _ ∧ _ ∧ _) => (⟨hh.1, hgrown_trans (grown_drewN (grown_refl w (some b)) k) hh.2.2⟩ : _ ∧ w.grownBy w' (some b))
    have hv : Bm.valB bs / 2 ^ pos % 2 ^ m = Bm.valB bs / 2 ^ pos := by
      apply Nat.mod_eq_of_lt
      have h1 := Bm.valB_lt bs hbs
      rw [Bm.p256, show 8 * bs.length = m + pos by omega, Nat.pow_add] at h1
      exact (Nat.div_lt_iff_lt_mul (Nat.pow_pos (by omega))).2 h1
    rw [hv] at ht
    have Ht := Lib.hid ht
    clear ht
    generalize Bm.valB bs / 2 ^ pos = v at *
    have d1 : decide ((m : Int) < 8) = true := decide_eq_true (by omega)
    have d2 : decide (m < 8) = true := decide_eq_true h8
    obtain ⟨r, hr⟩ : ∃ r, r = decide (m < 8 ∧ v = 0) := ⟨_, rfl⟩
    have d3 : ((v : Int) == 0) = r := by
      rw [hr]
      by_cases hv0 : v = 0
      · subst hv0; simp [h8]
      · rw [decide_eq_false (fun hh => hv0 hh.2), beq_eq_false_iff_ne]; omega
    rw [← hr]
    clear hle hv h hbs hm hr h8
    go_enter Tryz.func55, Tryz.ntmps55
    go_wp2_with fail
    refine Hle.out.mono ?_
    rintro e w' ⟨rfl, k, rfl⟩
    go_wp2_with fail
    refine (Ht.out k).mono ?_
    rintro e w2 ⟨rfl, hg2⟩
    have Hg2 := Lib.hid hg2
    clear hg2 Ht Hle
    go_wp2
    go_ret
    exact ⟨rfl, Hg2.out⟩
  · have ht : ∀ k, Calls Tryz.prog 76 #[.pointer (some ⟨b, 0, none⟩), .int .i64 (m : Int)] (w.drewN k) fun e w' => (∃ (v : Nat) (z : Bool), e = .returned (.tuple #[.int .u32 (v : Int), .bool z])) ∧ w.grownBy w' (some b) := fun k => by
      by_cases h32 : m ≤ 32
      · exact (take_ok b 0 bs pos m (w.drewN k) (by omega) hbs h32 (by omega) (h.drewN k)).mono fun e w' ⟨he, _, hg⟩ => ⟨⟨_, _, he⟩, hgrown_trans (grown_drewN (grown_refl w (some b)) k) hg⟩
      · exact (take_bad ⟨b, 0, none⟩ (m : Int) (w.drewN k) (Or.inr (by omega))).mono fun e w' ⟨he, hw⟩ => ⟨⟨0, false, he⟩, hw ▸ grown_drewN (grown_refl w (some b)) k⟩
    have Ht := Lib.hid ht
    have d1 : decide ((m : Int) < 8) = false := decide_eq_false (by omega)
    have d2 : decide (m < 8) = false := decide_eq_false h8
    have d3 : decide (m < 8 ∧ Bm.valB bs / 2 ^ pos = 0) = false := decide_eq_false (fun hh => h8 hh.1)
    rw [d3]
    clear hle ht h hbs hm h8 d3
    go_enter Tryz.func55, Tryz.ntmps55
    go_wp2_with fail
    refine Hle.out.mono ?_
    rintro e w' ⟨rfl, k, rfl⟩
    go_wp2_with fail
    refine (Ht.out k).mono ?_
    rintro e w2 ⟨⟨v, z, rfl⟩, hg2⟩
    have Hg2 := Lib.hid hg2
    clear hg2 Ht Hle
    go_wp2
    go_ret
    exact ⟨rfl, Hg2.out⟩
end Go.Proofs.YtbdciiiimdbmkaaGreat
