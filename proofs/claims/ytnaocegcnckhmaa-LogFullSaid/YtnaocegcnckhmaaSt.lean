/-
  Strings as lists of bytes: concatenation, pieces, equality, indices. No condition.
-/
import Derived.Test.YtnaocegcnckhmaaGn
import Derived.Laws.Concat
import Derived.Laws.DeepStrings4
namespace Go.Proofs.Ytnaocegcnckhmaa
open Go.RowKit

theorem strOf_append (a b : List Nat) : strOf a ++ strOf b = strOf (a ++ b) := by
  simp [strOf, ByteArray.mk_append_mk]
theorem strOf_extract (l : List Nat) (i j : Nat) : (strOf l).extract i j = strOf ((l.take j).drop i) := by
  apply ByteArray.ext
  simp only [strOf, ByteArray.data_extract, List.extract_toArray, List.extract_eq_take_drop, List.map_drop, List.map_take]
  rw [List.drop_take]
theorem strOf_take (l : List Nat) (j : Nat) : (strOf l).extract 0 j = strOf (l.take j) := by rw [strOf_extract, List.drop_zero]
theorem strOf_drop (l : List Nat) (i : Nat) : (strOf l).extract i l.length = strOf (l.drop i) := by rw [strOf_extract, List.take_length]
theorem strOf_toList (a : List Nat) : (strOf a).toList = a.map UInt8.ofNat := by simp [strOf]
theorem map_inj8 : ∀ (a b : List Nat), (∀ x ∈ a, x < 256) → (∀ x ∈ b, x < 256) → a.map UInt8.ofNat = b.map UInt8.ofNat → a = b
  | [], [], _, _, _ => rfl
  | [], _ :: _, _, _, h => by simp at h
  | _ :: _, [], _, _, h => by simp at h
  | x :: a, y :: b, ha, hb, h => by
    simp only [List.map_cons, List.cons.injEq] at h
    have hx := ha x List.mem_cons_self
    have hy := hb y List.mem_cons_self
    have e := congrArg UInt8.toNat h.1
    rw [UInt8.toNat_ofNat_of_lt' hx, UInt8.toNat_ofNat_of_lt' hy] at e
    rw [e, map_inj8 a b (fun z hz => ha z (List.mem_cons_of_mem _ hz)) (fun z hz => hb z (List.mem_cons_of_mem _ hz)) h.2]
theorem strOf_beq (a b : List Nat) (ha : ∀ x ∈ a, x < 256) (hb : ∀ x ∈ b, x < 256) : ((strOf a).toList == (strOf b).toList) = decide (a = b) := by
  rw [strOf_toList, strOf_toList]
  by_cases h : a = b
  · subst h; simp
  · rw [decide_eq_false h]
    simp only [beq_eq_false_iff_ne, ne_eq]
    exact fun e => h (map_inj8 a b ha hb e)
/-- The bytes of a string. -/
def bytesIn (s : ByteArray) : List Nat := s.data.toList.map UInt8.toNat
theorem strOf_in (s : ByteArray) : strOf (bytesIn s) = s := by
  apply ByteArray.ext
  have e : (UInt8.ofNat ∘ UInt8.toNat) = id := funext fun u => UInt8.ofNat_toNat
  simp [strOf, bytesIn, e]
theorem in_lt (s : ByteArray) : ∀ x ∈ bytesIn s, x < 256 := by
  intro x hx
  obtain ⟨u, _, rfl⟩ := List.mem_map.1 hx
  exact u.toNat_lt
theorem of_string (s : ByteArray) : ∃ l, s = strOf l ∧ ∀ x ∈ l, x < 256 := ⟨bytesIn s, (strOf_in s).symm, in_lt s⟩
theorem take_lt {l : List Nat} (h : ∀ x ∈ l, x < 256) (k : Nat) : ∀ x ∈ l.take k, x < 256 := fun x hx => h x (List.mem_of_mem_take hx)
theorem drop_lt {l : List Nat} (h : ∀ x ∈ l, x < 256) (k : Nat) : ∀ x ∈ l.drop k, x < 256 := fun x hx => h x (List.mem_of_mem_drop hx)
theorem append_lt {a b : List Nat} (ha : ∀ x ∈ a, x < 256) (hb : ∀ x ∈ b, x < 256) : ∀ x ∈ a ++ b, x < 256 := fun x hx => (List.mem_append.1 hx).elim (ha x) (hb x)
/-- Two strings, added. -/
theorem str_add (a b : List Nat) (h : a.length + b.length ≤ 1000000000) (W : World) : (Op.stringOp .add (strOf a) (strOf b)).run Try.prog W = .ok (.string (strOf (a ++ b))) W := by
  rw [run_string_add_sum W _ _ (by rw [strOf_size, strOf_size]; omega), strOf_append]
theorem str_to (l : List Nat) (j : Nat) (h : j ≤ l.length) (W : World) : (Instr.slice 9 (.string (strOf l)) none (some (.int .i64 (j : Int))) none).run Try.prog W = .ok (.string (strOf (l.take j))) W := by
  rw [run_slice_string_to_if W 9 _ .i64 j Try.underlying9, if_pos ⟨by omega, by rw [strOf_size]; omega⟩, Int.toNat_natCast, strOf_take]
theorem str_from (l : List Nat) (i : Nat) (h : i ≤ l.length) (W : World) : (Instr.slice 9 (.string (strOf l)) (some (.int .i64 (i : Int))) none none).run Try.prog W = .ok (.string (strOf (l.drop i))) W := by
  rw [run_slice_string_from_if W 9 _ .i64 i Try.underlying9, if_pos ⟨by omega, by rw [strOf_size]; omega⟩, Int.toNat_natCast, strOf_size, strOf_drop]
theorem str_mid (l : List Nat) (i j : Nat) (h : i ≤ j) (h2 : j ≤ l.length) (W : World) : (Instr.slice 9 (.string (strOf l)) (some (.int .i64 (i : Int))) (some (.int .i64 (j : Int))) none).run Try.prog W = .ok (.string (strOf ((l.take j).drop i))) W := by
  rw [run_slice_string W 9 _ .i64 .i64 i j Try.underlying9 (by omega) (by omega) (by rw [strOf_size]; omega), Int.toNat_natCast, Int.toNat_natCast, strOf_extract]
/-- A new slice of one byte, as a string. -/
theorem conv_one (W : World) (g b : Nat) (hb : b < 256) (h : W.cell? ⟨g, 0, none⟩ = some (.int .u8 (b : Int))) (c : Nat) :
    (convert 53 9 (.slice (some ⟨g, 0, none⟩) 1 c)).run Try.prog W = .ok (.string (strOf [b])) W := by
  have h1 := conv_bytes W (some ⟨g, 0, none⟩) c [b] (by intro x hx; simp at hx; omega) (fun _ => ⟨g, 0, rfl, fun j hj => by
    have : j = 0 := by simp [u8s] at hj; omega
    subst this
    rw [h]; simp [u8s]⟩)
  exact h1
end Go.Proofs.Ytnaocegcnckhmaa
