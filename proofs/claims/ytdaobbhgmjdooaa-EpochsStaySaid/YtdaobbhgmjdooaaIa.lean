/-
  A Store of layer 21 (epochs) in memory: its dictionaries, three cells each; New, there, find, Text, Held, Hold, Let, Last, by their walks, of a Store or of nobody's. Conditions: as each theorem's premises say.
-/
import Derived.Test.YtdaobbhgmjdooaaIm
import Derived.Test.YtdaobbhgmjdooaaGa
import Derived.Test.YtdaobbhgmjdooaaQs
import Derived.Test.YtdaobbhgmjdooaaEg
namespace Go.Proofs.Ytdaobbhgmjdooaa
open Go.RowKit

def dcE (d : Bm.Dic) : Value := .int .i64 (d.e : Int)
def dcT (d : Bm.Dic) : Value := .string d.t
def dcH (d : Bm.Dic) : Value := .int .i64 (d.h : Int)
/-- The cells of dictionaries. -/
def d3 (l : List Bm.Dic) : List Value := cc3 dcE dcT dcH l
/-- A new Store's cells, the number of its dictionaries left out. -/
def eZ : List Value := [.int .i64 0, .string ⟨#[]⟩, .int .i64 0, .int .i64 0, .string ⟨#[]⟩, .int .i64 0, .int .i64 0, .string ⟨#[]⟩, .int .i64 0, .int .i64 0, .string ⟨#[]⟩, .int .i64 0,
  .int .i64 0, .string ⟨#[]⟩, .int .i64 0, .int .i64 0, .string ⟨#[]⟩, .int .i64 0, .int .i64 0, .string ⟨#[]⟩, .int .i64 0, .int .i64 0, .string ⟨#[]⟩, .int .i64 0]
def eZ1 : List Value := eZ ++ [.int .i64 0]
set_option maxRecDepth 100000 in
theorem ezero (W : World) : (zeroValue 54).run Try.prog W = .ok (.agg eZ1.toArray) W := by kernel_rfl
theorem ezero_ne : ¬ eZ1.toArray = #[] := fun h => by
  have h1 := congrArg Array.toList h
  rw [List.toList_toArray, eZ1] at h1
  exact absurd h1 (by simp [eZ])

/-- A Store at block b with these dictionaries, no number in it above m. -/
def SG (w : World) (b m : Nat) (l : List Bm.Dic) : Prop := ∃ R : List Value, Row w b 54 (d3 l ++ (R ++ [.int .i64 (l.length : Int)])) ∧ l.length * 3 + R.length = 24 ∧ ∀ d ∈ l, d.e ≤ m ∧ d.h ≤ m ∧ d.t.size ≤ 256
section
variable {w w' : World} {b m : Nat} {l : List Bm.Dic}
theorem SG.keep (h : SG w b m l) (hb : w'.heap[b]? = w.heap[b]?) : SG w' b m l := by
  obtain ⟨R, h1, h2⟩ := h
  exact ⟨R, h1.keep hb, h2⟩
theorem SG.lt (h : SG w b m l) : b < w.heap.size := by
  obtain ⟨R, h1, h2⟩ := h
  exact h1.lt
theorem SG.below (h : SG w b m l) (hb : Below w.heap.size w w') : SG w' b m l := h.keep (hb.block b h.lt)
theorem SG.mono (h : SG w b m l) {m' : Nat} (hm : m ≤ m') : SG w b m' l := by
  obtain ⟨R, h1, h2, h3⟩ := h
  exact ⟨R, h1, h2, fun d hd => by have := h3 d hd; omega⟩
theorem SG.small (h : SG w b m l) : l.length ≤ 8 ∧ ∀ d ∈ l, d.e ≤ m ∧ d.h ≤ m ∧ d.t.size ≤ 256 := by
  obtain ⟨R, h1, h2, h3⟩ := h
  exact ⟨by omega, h3⟩
theorem SG.cn (h : SG w b m l) : w.cell? ⟨b, 24, none⟩ = some (.int .i64 (l.length : Int)) := by
  obtain ⟨R, h1, h2, h3⟩ := h
  have hl : (d3 l).length = l.length * 3 := cc3_length l
  rw [h1.cell, List.getElem?_append_right (by omega), List.getElem?_append_right (by omega), hl, show 24 - l.length * 3 - R.length = 0 by omega]
  rfl
theorem SG.fr (h : SG w b m l) (i : Nat) : w.frozen? ⟨b, i, none⟩ = false := by
  obtain ⟨R, h1, h2⟩ := h
  exact h1.free i
theorem SG.cd (h : SG w b m l) (i : Nat) (hi : i < l.length) : w.cell? ⟨b, i * 3, none⟩ = some (.int .i64 (l[i].e : Int)) ∧ w.cell? ⟨b, i * 3 + 1, none⟩ = some (.string l[i].t) ∧ w.cell? ⟨b, i * 3 + 2, none⟩ = some (.int .i64 (l[i].h : Int)) := by
  obtain ⟨R, h1, h2⟩ := h
  exact row3_cell (f := dcE) (h := dcT) (k := dcH) h1 i hi
end
theorem cc3_set2 {α : Type} {f h k : α → Value} (l : List α) (i : Nat) (x : α) (hi : i < l.length) (h1 : f x = f l[i]) (h2 : h x = h l[i]) : (cc3 f h k l).set (i * 3 + 2) (k x) = cc3 f h k (l.set i x) := by
  induction l generalizing i with
  | nil => simp at hi
  | cons y l ih =>
    cases i with
    | zero =>
      have e1 : f x = f y := h1
      have e2 : h x = h y := h2
      show _ = cc3 f h k (x :: l)
      rw [cc3, cc3, e1, e2]
      rfl
    | succ i =>
      have h1 := ih i (by simpa using hi) h1 h2
      rw [cc3, show (i + 1) * 3 = i * 3 + 1 + 1 + 1 by omega]
      simp only [List.set_cons_succ]
      rw [h1]
      rfl
/-- One is held otherwise. -/
theorem SG.set_ {w : World} {b m : Nat} {l : List Bm.Dic} (h : SG w b m l) (i : Nat) (hi : i < l.length) (n : Nat) (hn : n ≤ m) : SG (w.setCell ⟨b, i * 3 + 2, none⟩ (.int .i64 (n : Int))) b m (l.set i ⟨l[i].e, l[i].t, n⟩) := by
  obtain ⟨R, h1, h2, h3⟩ := h
  have hl : (d3 l).length = l.length * 3 := cc3_length l
  have h4 := h1.set_ (i * 3 + 2) (.int .i64 (n : Int))
  rw [List.set_append_left _ _ (by omega)] at h4
  have h5 : (d3 l).set (i * 3 + 2) (dcH ⟨l[i].e, l[i].t, n⟩) = d3 (l.set i ⟨l[i].e, l[i].t, n⟩) := cc3_set2 l i ⟨l[i].e, l[i].t, n⟩ hi rfl rfl
  refine ⟨R, ?_, by rw [List.length_set]; exact h2, fun d hd => ?_⟩
  · rw [List.length_set, ← h5]
    exact h4
  · rcases List.mem_or_eq_of_mem_set hd with h6 | rfl
    · exact h3 d h6
    · have := h3 _ (List.getElem_mem hi)
      exact ⟨this.1, hn, this.2.2⟩
set_option maxHeartbeats 400000 in
set_option maxRecDepth 100000 in
theorem enew_any (w : World) :
    Calls Try.prog 7 #[] w fun e w' => ∃ b, e = .returned (.pointer (some ⟨b, 0, none⟩)) ∧ SG w' b 0 [] ∧ w.heap.size ≤ b ∧ Below w.heap.size w w' := by
  have hz := ezero
  have hzn := ezero_ne
  have He : Hid (eZ1 = d3 [] ++ (eZ ++ [.int .i64 ((([] : List Bm.Dic).length : Nat) : Int)])) := Lib.hid rfl
  generalize eZ1 = Z at *
  go_enter Try.func7, Try.ntmps7
  go_wp2
  go_ret
  exact ⟨_, rfl, ⟨eZ, by rw [← He.out]; exact Row.new w _ Z, rfl, fun d hd => by cases hd⟩, Nat.le_refl _, (Below.refl _ _).alloc (Nat.le_refl _) _⟩

/-- A Store, or nobody's. -/
def SP (w : World) (p : Option Addr) (m : Nat) (l : List Bm.Dic) : Prop := (p = none ∧ l = []) ∨ ∃ b, p = some ⟨b, 0, none⟩ ∧ SG w b m l
theorem SG.toP {w : World} {b m : Nat} {l : List Bm.Dic} (h : SG w b m l) : SP w (some ⟨b, 0, none⟩) m l := Or.inr ⟨b, rfl, h⟩
theorem SP.nobody (w : World) : SP w none 0 [] := Or.inl ⟨rfl, rfl⟩
theorem SP.drewN {w : World} {p : Option Addr} {m : Nat} {l : List Bm.Dic} (h : SP w p m l) (q : Nat) : SP (w.drewN q) p m l := h
theorem SP.below {w w' : World} {p : Option Addr} {m : Nat} {l : List Bm.Dic} (h : SP w p m l) (hb : Below w.heap.size w w') : SP w' p m l :=
  h.imp id fun ⟨b, e, hr⟩ => ⟨b, e, hr.below hb⟩
theorem SP.small {w : World} {p : Option Addr} {m : Nat} {l : List Bm.Dic} (h : SP w p m l) : l.length ≤ 8 ∧ ∀ d ∈ l, d.e ≤ m ∧ d.h ≤ m ∧ d.t.size ≤ 256 := by
  rcases h with ⟨_, rfl⟩ | ⟨b, _, hr⟩
  · exact ⟨Nat.zero_le _, fun d hd => by cases hd⟩
  · exact hr.small
theorem SP.store {w : World} {p : Option Addr} {m : Nat} {l : List Bm.Dic} (h : SP w p m l) (h0 : 0 < l.length) : ∃ b, p = some ⟨b, 0, none⟩ ∧ SG w b m l := by
  rcases h with ⟨_, rfl⟩ | h
  · simp at h0
  · exact h
/-- The room of the slice that 'there' answers. -/
def thC : Option Addr → Nat
  | none => 0
  | some _ => 8
theorem slice_a8d (b n : Nat) (W : World) (h : n ≤ 8) : (Instr.sliceAt 52 (.pointer (some ⟨b, 0, none⟩)) none (some (.int .i64 (n : Int))) none).run Try.prog W = .ok (.slice (some ⟨b, 0, none⟩) n 8) W := by
  have hl : Try.prog.arrayLen 52 = 8 := by kernel_rfl
  have he : Try.prog.elem 52 = 51 := by kernel_rfl
  rw [run_sliceAt_array_h W 52 ⟨b, 0, none⟩ (by kernel_rfl) .i64 n (by omega) (by rw [hl]; omega), hl, he]
  go_simp
set_option maxHeartbeats 400000 in
set_option maxRecDepth 100000 in
theorem ethere_any (p : Option Addr) (m : Nat) (l : List Bm.Dic) (w : World) (h : SP w p m l) :
    Calls Try.prog 23 #[.pointer p] w fun e w' => e = .returned (.slice p l.length (thC p)) ∧ ∃ q, w' = w.drewN q := by
  have h8 := h.small.1
  rcases h with ⟨rfl, rfl⟩ | ⟨b, rfl, hr⟩
  · go_enter Try.func23, Try.ntmps23
    go_wp2
    go_ret
    exact ⟨rfl, 0, rfl⟩
  · have cn := hr.cn
    clear hr
    generalize l.length = n at *
    have hs := fun W => slice_a8d b n W h8
    go_enter Try.func23, Try.ntmps23
    go_wp2_with fail
    go_quiet (fail)
    go_wp2
    go_ret
    exact ⟨rfl, _, rfl⟩
/-- A pointer to a dictionary of the Store at block b, or none. -/
def ptD (p : Option Addr) : Option Nat → Value
  | none => .pointer none
  | some i => .pointer (p.map fun a => ⟨a.block, i * 3, none⟩)
set_option maxHeartbeats 1000000 in
set_option maxRecDepth 100000 in
theorem efind_any (p : Option Addr) (m : Nat) (l : List Bm.Dic) (x : Int) (w : World) (h : SP w p m l) :
    Calls Try.prog 22 #[.pointer p, .int .i64 x] w fun e w' => e = .returned (ptD p (Bm.fiD x l)) ∧ ∃ q, w' = w.drewN q := by
  have Hth := Lib.hid (ethere_any p m l w h)
  have h8 := h.small.1
  have H := Lib.hid h
  have Hno := Lib.hid (Bm.fiD_no x l)
  have Hat := Lib.hid (Bm.fiD_at x l)
  clear h
  generalize hc : thC p = c at *
  clear hc
  obtain ⟨r, hr⟩ : ∃ r, r = ptD p (Bm.fiD x l) := ⟨_, rfl⟩
  rw [← hr]
  have Hr := Lib.hid hr
  clear hr
  go_enter Try.func22, Try.ntmps22
  go_wp2_with fail
  refine Hth.out.mono ?_
  rintro e w1 ⟨rfl, q, rfl⟩
  clear Hth
  go_wp2
  go_loop [6, 11] (fun _ i => ∃ k : Nat, k ≤ l.length ∧ i = .int .i64 (k : Int) ∧ Hid (∀ j (hj : j < l.length), j < k → (l[j].e : Int) ≠ x)) (fun _ i => l.length - (intOf i).toNat)
  case atStart => exact ⟨0, Nat.zero_le _, rfl, Lib.hid fun j _ hj => absurd hj (Nat.not_lt_zero _)⟩
  case round =>
    obtain ⟨k, hk, rfl, hall⟩ := hrel
    by_cases hkl : k < l.length
    · obtain ⟨b, rfl, hS⟩ := H.out.store (by omega)
      have c0 := (hS.cd k hkl).1
      have hkI : (k : Int) < (l.length : Int) := by omega
      by_cases hx : (l[k].e : Int) = x
      · have hf := Hat.out k hkl hx (fun j hj hjk => hall.out j hj hjk)
        have Hr2 : Hid (r = .pointer (some ⟨b, k * 3, none⟩)) := Lib.hid (by rw [Hr.out, hf]; rfl)
        have hd : ((l[k].e : Int) == x) = true := by rw [beq_iff_eq]; exact hx
        clear hf hx hS H Hno Hat hall Hr
        generalize l[k].e = z at *
        go_wp2
        go_ret
        exact ⟨congrArg Ending.returned Hr2.out.symm, _, rfl⟩
      · have hd : ((l[k].e : Int) == x) = false := by rw [beq_eq_false_iff_ne]; exact hx
        have Hall : Hid (∀ j (hj : j < l.length), j < k + 1 → (l[j].e : Int) ≠ x) := Lib.hid fun j hj hjk => by
          by_cases e : j = k
          · subst e; exact hx
          · exact hall.out j hj (by omega)
        clear hx hS Hno Hat hall Hr
        generalize l[k].e = z at *
        go_wp2
        go_round
        case rel => exact ⟨k + 1, by omega, by go_num, Hall⟩
        case measure => simp [intOf]; omega
    · obtain rfl : k = l.length := by omega
      have hf := Hno.out (fun j hj => hall.out j hj hj)
      rw [hf] at Hr
      go_wp2
      go_ret
      exact ⟨congrArg Ending.returned Hr.out.symm, _, rfl⟩
end Go.Proofs.Ytdaobbhgmjdooaa
