/-
  CursorBack (layer 3): what items come to, one behind the other; what a Writer and a Reader make of one. Conditions: as each theorem's premises say.
-/
import Derived.Test.YtibgddeggcabmaaCk
import Derived.Test.YtibgddeggcabmaaCs
import Derived.Test.YtibgddeggcabmaaIt
namespace Go.Proofs.Ytibgddeggcabmaa
open Go.RowKit

/-- The bytes of an item. -/
def encI (x : Itm) : List Nat := if x.1 % 4 = 0 then Bm.bytesOf x.2.1 (fx x.2.2.1) else if x.1 % 4 = 1 then Bm.grp x.2.1 else if x.1 % 4 = 2 then x.2.2.2 else Bm.grp x.2.2.2.length ++ x.2.2.2
/-- The bytes of items, one behind the other. -/
def encL (xs : List Itm) : List Nat := (xs.map encI).flatten
theorem encL_snoc (xs : List Itm) (k : Nat) (h : k < xs.length) : encL (xs.take (k + 1)) = encL (xs.take k) ++ encI xs[k] := by
  unfold encL
  rw [List.take_succ_eq_append_getElem h, List.map_append, List.flatten_append]
  simp only [List.map_cons, List.map_nil, List.flatten_cons, List.flatten_nil, List.append_nil]
theorem encL_drop (xs : List Itm) (k : Nat) (h : k < xs.length) : encL (xs.drop k) = encI xs[k] ++ encL (xs.drop (k + 1)) := by
  unfold encL
  rw [List.drop_eq_getElem_cons h, List.map_cons, List.flatten_cons]
theorem encI_lt (x : Itm) (h : Itm.Ok x) (h3 : x.2.2.2.length ≤ 300) : ∀ c ∈ encI x, c < 256 := by
  unfold encI
  split
  · exact Bm.bytesOf_lt _ _
  split
  · exact Bm.grp_lt _ h.2.1
  split
  · exact h.2.2.2.1
  · exact append_lt (Bm.grp_lt _ (by omega)) h.2.2.2.1
theorem encI_len (x : Itm) (h : Itm.Ok x) (h3 : x.2.2.2.length ≤ 300) : (encI x).length ≤ 310 := by
  unfold encI
  split
  · rw [Bm.bytesOf_length]; have := fx_le x.2.2.1; omega
  split
  · have := Bm.grp_ten _ h.2.1; omega
  split
  · omega
  · have := Bm.grp_ten x.2.2.2.length (by omega)
    rw [List.length_append]; omega
theorem encL_lt : ∀ (xs : List Itm), (∀ x ∈ xs, Itm.Ok x) → (∀ x ∈ xs, x.2.2.2.length ≤ 300) → ∀ c ∈ encL xs, c < 256
  | [], _, _, c, h => by simp [encL] at h
  | x :: xs, h, h3, c, hc => by
    have e : encL (x :: xs) = encI x ++ encL xs := by simp [encL]
    rw [e] at hc
    exact append_lt (encI_lt x (h x List.mem_cons_self) (h3 x List.mem_cons_self)) (encL_lt xs (fun y hy => h y (List.mem_cons_of_mem _ hy)) (fun y hy => h3 y (List.mem_cons_of_mem _ hy))) c hc
theorem encL_len : ∀ (xs : List Itm), (∀ x ∈ xs, Itm.Ok x) → (∀ x ∈ xs, x.2.2.2.length ≤ 300) → (encL xs).length ≤ 310 * xs.length
  | [], _, _ => by simp [encL]
  | x :: xs, h, h3 => by
    have e : encL (x :: xs) = encI x ++ encL xs := by simp [encL]
    have h1 := encI_len x (h x List.mem_cons_self) (h3 x List.mem_cons_self)
    have h2 := encL_len xs (fun y hy => h y (List.mem_cons_of_mem _ hy)) (fun y hy => h3 y (List.mem_cons_of_mem _ hy))
    rw [e, List.length_append, List.length_cons]
    omega

theorem grps_two (a : Nat) (l : List Nat) (h : a < 2 ^ 64) : groupS (some (Bm.grp a ++ l)) = (a, some l) := by
  have h1 := Bm.firstG_grp a l h
  have h2 := Bm.grp_pos a h
  simp [groupS, h1, h2]
theorem raws_two (s l : List Nat) : rawS s.length (some (s ++ l)) = (s, some l) := by simp [rawS]
theorem texts_two (s l : List Nat) (h : s.length ≤ 300) : textS (s.length : Int) (some ((Bm.grp s.length ++ s) ++ l)) = (s, some l) := by
  have h1 : intS (s.length : Int) (some ((Bm.grp s.length ++ s) ++ l)) = (s.length, some (s ++ l)) := by
    unfold intS
    rw [List.append_assoc, grps_two _ _ (by omega), if_neg (by simp)]
  unfold textS
  rw [h1]
  exact raws_two s l

/-- A Writer with these bytes, an item in a block of its own; what was there is there. -/
def PP (w : World) (b x : Nat) (it : Itm) (W : World) (all : List Nat) : Prop := CW W b all ∧ ItCells W x 0 it ∧ Below w.heap.size w W ∧ w.heap.size ≤ b ∧ x ≠ b ∧ x < W.heap.size
theorem PP.step {w W W' : World} {b x : Nat} {it : Itm} {all all' : List Nat} (h : PP w b x it W all) (hc : CW W' b all') (hg : W.grownBy W' (some b)) : PP w b x it W' all' := by
  obtain ⟨h1, h2, h3, h4, h5, h6⟩ := h
  have hl := hg.block x h6 (fun e => by injection e with e; exact h5 e)
  refine ⟨hc, ⟨(World.cell?_of_block (a := ⟨x, 0, none⟩) hl).trans h2.1, (World.cell?_of_block (a := ⟨x, 0 + 1, none⟩) hl).trans h2.2.1, (World.cell?_of_block (a := ⟨x, 0 + 2, none⟩) hl).trans h2.2.2.1, (World.cell?_of_block (a := ⟨x, 0 + 3, none⟩) hl).trans h2.2.2.2⟩, h3.grown hg h3.size (fun k e => by injection e with e; omega), h4, h5, Nat.lt_of_lt_of_le h6 hg.size⟩
theorem PP.below {w W W' : World} {b x : Nat} {it : Itm} {all : List Nat} (h : PP w b x it W all) (hb : Below W.heap.size W W') : PP w b x it W' all := h.step (h.1.below hb) (grown_below hb _)
theorem pp_fixed {w W : World} {b x : Nat} {it : Itm} {all : List Nat} (v : Nat) (n : Int) (hv : v < 2 ^ 64) (hn : -9223372036854775808 ≤ n ∧ n ≤ 9223372036854775807) (hl : all.length ≤ 1000000) (h : PP w b x it W all) :
    Calls Try.prog 7 #[.pointer (some ⟨b, 0, none⟩), .int .u64 (v : Int), .int .i64 n] W fun e w' => e = .returned (.pointer (some ⟨b, 0, none⟩)) ∧ PP w b x it w' (all ++ Bm.bytesOf v (fx n)) :=
  (wfixed_any b v n all W hn.1 hn.2 hv (by omega) h.1).mono fun _ _ ⟨he, hc, hg⟩ => ⟨he, h.step hc hg⟩
theorem pp_group {w W : World} {b x : Nat} {it : Itm} {all : List Nat} (v : Nat) (hv : v < 2 ^ 64) (hl : all.length ≤ 1000000) (h : PP w b x it W all) :
    Calls Try.prog 9 #[.pointer (some ⟨b, 0, none⟩), .int .u64 (v : Int)] W fun e w' => e = .returned (.pointer (some ⟨b, 0, none⟩)) ∧ PP w b x it w' (all ++ Bm.grp v) :=
  (wgroup_any b v all W hv (by omega) h.1).mono fun _ _ ⟨he, hc, hg⟩ => ⟨he, h.step hc hg⟩
theorem pp_raw {w W : World} {b x : Nat} {it : Itm} {all : List Nat} (s : List Nat) (hs : s.length ≤ 300) (hl : all.length ≤ 1000000) (h : PP w b x it W all) :
    Calls Try.prog 11 #[.pointer (some ⟨b, 0, none⟩), .string (strOf s)] W fun e w' => e = .returned (.pointer (some ⟨b, 0, none⟩)) ∧ PP w b x it w' (all ++ s) :=
  (wraw_any b all s W (by omega) h.1).mono fun _ _ ⟨he, hc, hg⟩ => ⟨he, h.step hc hg⟩
theorem pp_text {w W : World} {b x : Nat} {it : Itm} {all : List Nat} (s : List Nat) (hs : s.length ≤ 300) (hl : all.length ≤ 1000000) (h : PP w b x it W all) :
    Calls Try.prog 12 #[.pointer (some ⟨b, 0, none⟩), .string (strOf s)] W fun e w' => e = .returned (.pointer (some ⟨b, 0, none⟩)) ∧ PP w b x it w' (all ++ (Bm.grp s.length ++ s)) :=
  (wtext_any b all s W (by omega) (by omega) h.1).mono fun _ _ ⟨he, hc, hg⟩ => ⟨he, h.step hc hg⟩
theorem PP.new {w W : World} {b : Nat} (it : Itm) {all : List Nat} (hc : CW W b all) (hb : Below w.heap.size w W) (hw : w.heap.size ≤ b) :
    PP w b W.heap.size it (W.alloc (.cells #[.int .u8 (it.1 : Int), .int .u64 (it.2.1 : Int), .int .i64 it.2.2.1, .string (strOf it.2.2.2)] 29)) all := by
  have hr : Row (W.alloc (.cells #[.int .u8 (it.1 : Int), .int .u64 (it.2.1 : Int), .int .i64 it.2.2.1, .string (strOf it.2.2.2)] 29)) W.heap.size 29 [.int .u8 (it.1 : Int), .int .u64 (it.2.1 : Int), .int .i64 it.2.2.1, .string (strOf it.2.2.2)] := Row.new W _ _
  exact ⟨hc.below ((Below.refl _ _).alloc (Nat.le_refl _) _), ⟨hr.cell 0, hr.cell 1, hr.cell 2, hr.cell 3⟩, hb.alloc hb.size _, hw, by have := hc.lt; omega, by simp⟩

/-- A Reader with this left, an item in a block of its own; what was there is there. -/
def QQ (w : World) (r x : Nat) (it : Itm) (W : World) (st : Left) : Prop := CR W r st ∧ ItCells W x 0 it ∧ Below w.heap.size w W ∧ w.heap.size ≤ r ∧ x ≠ r ∧ x < W.heap.size
theorem QQ.step {w W W' : World} {r x : Nat} {it : Itm} {st st' : Left} (h : QQ w r x it W st) (hc : CR W' r st') (hg : W.grownBy W' (some r)) : QQ w r x it W' st' := by
  obtain ⟨h1, h2, h3, h4, h5, h6⟩ := h
  have hl := hg.block x h6 (fun e => by injection e with e; exact h5 e)
  refine ⟨hc, ⟨(World.cell?_of_block (a := ⟨x, 0, none⟩) hl).trans h2.1, (World.cell?_of_block (a := ⟨x, 0 + 1, none⟩) hl).trans h2.2.1, (World.cell?_of_block (a := ⟨x, 0 + 2, none⟩) hl).trans h2.2.2.1, (World.cell?_of_block (a := ⟨x, 0 + 3, none⟩) hl).trans h2.2.2.2⟩, h3.grown hg h3.size (fun k e => by injection e with e; omega), h4, h5, Nat.lt_of_lt_of_le h6 hg.size⟩
theorem QQ.below {w W W' : World} {r x : Nat} {it : Itm} {st : Left} (h : QQ w r x it W st) (hb : Below W.heap.size W W') : QQ w r x it W' st := h.step (h.1.below hb) (grown_below hb _)
theorem QQ.drew {w W : World} {r x : Nat} {it : Itm} {st : Left} (h : QQ w r x it W st) : QQ w r x it W.drew st := h.below (Below.refl _ _).drew
theorem QQ.new {w W : World} {r : Nat} (it : Itm) {st : Left} (hc : CR W r st) (hb : Below w.heap.size w W) (hw : w.heap.size ≤ r) :
    QQ w r W.heap.size it (W.alloc (.cells #[.int .u8 (it.1 : Int), .int .u64 (it.2.1 : Int), .int .i64 it.2.2.1, .string (strOf it.2.2.2)] 29)) st := by
  have hr : Row (W.alloc (.cells #[.int .u8 (it.1 : Int), .int .u64 (it.2.1 : Int), .int .i64 it.2.2.1, .string (strOf it.2.2.2)] 29)) W.heap.size 29 [.int .u8 (it.1 : Int), .int .u64 (it.2.1 : Int), .int .i64 it.2.2.1, .string (strOf it.2.2.2)] := Row.new W _ _
  exact ⟨hc.below ((Below.refl _ _).alloc (Nat.le_refl _) _), ⟨hr.cell 0, hr.cell 1, hr.cell 2, hr.cell 3⟩, hb.alloc hb.size _, hw, by have := CR.lt hc; omega, by simp⟩
theorem qq_fixed {w W : World} {r x : Nat} {it : Itm} (v : Nat) (n : Int) (l : List Nat) (hn : -9223372036854775808 ≤ n ∧ n ≤ 9223372036854775807) (hok : OkL (some (Bm.bytesOf v (fx n) ++ l))) (h : QQ w r x it W (some (Bm.bytesOf v (fx n) ++ l))) :
    Calls Try.prog 16 #[.pointer (some ⟨r, 0, none⟩), .int .i64 n] W fun e w' => e = .returned (.int .u64 (Bm.valB (Bm.bytesOf v (fx n)) : Int)) ∧ QQ w r x it w' (some l) := by
  have h1 := rfixed_any r _ n W hn.1 hn.2 hok h.1
  have e := raws_two (Bm.bytesOf v (fx n)) l
  rw [Bm.bytesOf_length] at e
  rw [e] at h1
  exact h1.mono fun _ _ ⟨he, hc, hg⟩ => ⟨he, h.step hc hg⟩
theorem qq_group {w W : World} {r x : Nat} {it : Itm} (v : Nat) (l : List Nat) (hv : v < 2 ^ 64) (hok : OkL (some (Bm.grp v ++ l))) (h : QQ w r x it W (some (Bm.grp v ++ l))) :
    Calls Try.prog 18 #[.pointer (some ⟨r, 0, none⟩)] W fun e w' => e = .returned (.int .u64 (v : Int)) ∧ QQ w r x it w' (some l) := by
  have h1 := rgroup_any r _ W hok h.1
  rw [grps_two _ _ hv] at h1
  exact h1.mono fun _ _ ⟨he, hc, hg⟩ => ⟨he, h.step hc hg⟩
theorem qq_raw {w W : World} {r x : Nat} {it : Itm} (s l : List Nat) (h : QQ w r x it W (some (s ++ l))) :
    Calls Try.prog 19 #[.pointer (some ⟨r, 0, none⟩), .int .i64 (s.length : Int)] W fun e w' => e = .returned (.string (strOf s)) ∧ QQ w r x it w' (some l) := by
  have h1 := rraw_any r _ (s.length : Int) W h.1
  rw [Int.toNat_natCast, raws_two] at h1
  exact h1.mono fun _ _ ⟨he, hc, hg⟩ => ⟨he, h.step hc hg⟩
theorem qq_text {w W : World} {r x : Nat} {it : Itm} (s l : List Nat) (hs : s.length ≤ 300) (hok : OkL (some ((Bm.grp s.length ++ s) ++ l))) (h : QQ w r x it W (some ((Bm.grp s.length ++ s) ++ l))) :
    Calls Try.prog 20 #[.pointer (some ⟨r, 0, none⟩), .int .i64 (s.length : Int)] W fun e w' => e = .returned (.string (strOf s)) ∧ QQ w r x it w' (some l) := by
  have h1 := rtext_any r _ (s.length : Int) W (by omega) (by omega) hok h.1
  rw [texts_two _ _ hs] at h1
  exact h1.mono fun _ _ ⟨he, hc, hg⟩ => ⟨he, h.step hc hg⟩
end Go.Proofs.Ytibgddeggcabmaa
