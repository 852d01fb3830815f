/-
  General lemmas over a program that has bytes, slices of bytes, strings: a new slice of bytes, bytes as a string. No condition.
-/
import Derived.Test.YtnaocegcnckhmaaGw
namespace Go.Proofs.Ytnaocegcnckhmaa
open Go.RowKit

theorem info_u8 : (Try.prog.info? 5).map (fun i => (i.zero, i.size, i.bytes)) = some (some (.int .u8 0), 1, 1) := by kernel_rfl
theorem row_of_own {w : World} {base g n : Nat} (h : w.ownsRow base 5 1 (.slice (some ⟨g, 0, none⟩) n n) n (madeCells #[Value.int .u8 0] n).toList) : Row w g 5 (u8s (List.replicate n 0)) := by
  rcases h.2 with ⟨hv, _⟩ | ⟨g', cap, cur, hv, hb, hh, h1, h2, h3, h4⟩
  · cases hv
  · injection hv with e1 e2 e3
    injection e1 with e1
    injection e1 with e1
    subst e1 e3
    have e : cur.toList = u8s (List.replicate n 0) := by
      rw [List.take_of_length_le (by rw [Array.length_toList]; omega)] at h4
      rw [h4, toList_madeCells_one]
      simp only [u8s, List.map_replicate]
      rfl
    unfold Row
    rw [← e, Array.toArray_toList]
    exact hh
theorem conv_bytes (w : World) (A : Option Addr) (c : Nat) (bs : List Nat) (hbs : ∀ b ∈ bs, b < 256) (hr : Reads w A (u8s bs)) :
    (convert 53 9 (.slice A bs.length c)).run Try.prog w = .ok (.string (strOf bs)) w := by
  have key : ∀ a : Addr, (∀ j (hj : j < bs.length), w.cell? (a.add j) = some (.int .u8 (bs[j] : Int))) → (convert 53 9 (.slice (some a) bs.length c)).run Try.prog w = .ok (.string (strOf bs)) w := by
    intro a ha
    have h := run_convert_bytes_back (P := Try.prog) w 53 9 5 a c (bs.map UInt8.ofNat) Try.underlying53 Try.underlying5 Try.underlying9 (fun j hj => by
      have hj' : j < bs.length := by simpa using hj
      have hlt := hbs bs[j] (List.getElem_mem hj')
      rw [ha j hj', List.getElem_map, UInt8.toNat_ofNat_of_lt' hlt])
    rw [List.length_map] at h
    exact h
  rcases bs with _ | ⟨b, bs⟩
  · rcases A with _ | a
    · exact run_convert_bytes_nil w 53 5 Try.underlying53 Try.underlying5 0 c 9 Try.underlying9
    · exact key a (fun j hj => absurd hj (by simp))
  · obtain ⟨g, off, rfl, hc⟩ := reads_u8 hr (by simp)
    refine key _ (fun j hj => ?_)
    have e : ((⟨g, off, none⟩ : Addr).add j) = ⟨g, off + j, none⟩ := by unfold Addr.add; split <;> simp_all
    rw [e]
    exact hc j hj
theorem index_at (bs : List Nat) (i : Nat) (W : World) (hi : i < bs.length) (hlt : bs[i] < 256) : (Instr.index 9 (.string (strOf bs)) (.int .i64 (i : Int))).run Try.prog W = .ok (.int .u8 ((bs[i] : Nat) : Int)) W := by
  have hs := strOf_size bs
  rw [run_index_string W 9 (strOf bs) .i64 (i : Int) Try.underlying9, dif_pos ⟨by omega, by omega⟩]
  have e : (strOf bs)[i]'(by omega) = UInt8.ofNat bs[i] := by
    rw [ByteArray.getElem_eq_getElem_data]
    simp [strOf]
  simp only [Int.toNat_natCast, e]
  rw [UInt8.toNat_ofNat_of_lt' hlt]
theorem own_of_row {w : World} {base g : Nat} {l : List Nat} (h : Row w g 5 (u8s l)) (hb : base ≤ g) (hm : l.length ≤ 1000000000) : w.ownsRow base 5 1 (.slice (some ⟨g, 0, none⟩) l.length l.length) l.length (u8s l) :=
  ⟨by rw [u8s_length, Nat.mul_one], .inr ⟨g, l.length, (u8s l).toArray, rfl, hb, h, Nat.le_refl _, by unfold maxLen; omega, by simp [u8s_length], by rw [List.take_of_length_le (by simp [u8s_length])]⟩⟩
end Go.Proofs.Ytnaocegcnckhmaa
