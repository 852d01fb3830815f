/-
  What layer 10's calls (litcode) are to answer, as the laws' walks ask for it: definitions, each a premise of a law's walk. No condition.
-/
import Derived.Test.YtgcfdjgfnagmjaaGat
import Derived.Test.YtgcfdjgfnagmjaaGai
import Derived.Test.YtgcfdjgfnagmjaaGac
namespace Go.Proofs.Ytgcfdjgfnagmjaa
open Go.RowKit

/-- Lengths as bytes. -/
def LTabOk : Prop := ∀ (w : World) (A : Option Addr) (c : Nat) (l : List Int), l.length ≤ 1000000000 → l.length ≤ c → (∀ x ∈ l, Bm.IntOk x) → Reads w A (i64z l) →
  Calls Try.prog 25 #[.slice A l.length c] w fun e w' => e = .returned (strV (if Bm.WholeI l then some (Bm.tableL (Bm.shortL (l.map Int.toNat))) else none)) ∧ Below w.heap.size w w'
/-- What Read answers. -/
def ReadP (w' : World) (b : Nat) (bs : List Nat) (e : Ending) : Option (List Nat × Nat) → Prop
  | none => ∃ A c, e = .returned (.tuple #[.slice A 0 c, .bool false])
  | some t => ∃ A c, e = .returned (.tuple #[.slice A t.1.length c, .bool true]) ∧ Reads w' A (i64s t.1) ∧ CR w' b (some (bs.drop t.2))
def LReadOk : Prop := ∀ (w : World) (b : Nat) (bs : List Nat), bs.length ≤ 10000 → (∀ x ∈ bs, x < 256) → CR w b (some bs) →
  Calls Try.prog 37 #[.pointer (some ⟨b, 0, none⟩)] w fun e w' => ReadP w' b bs e (Bm.readL bs) ∧ w.grownBy w' (some b)
/-- Bytes in code. -/
def LEncOk : Prop := ∀ (w : World) (A B : Option Addr) (c d : Nat) (l : List Int) (bs : List Nat), l.length ≤ 1000000000 → l.length ≤ c → (∀ x ∈ l, Bm.IntOk x) → bs.length ≤ 10000 → bs.length ≤ d → (∀ x ∈ bs, x < 256) → Reads w A (i64z l) → Reads w B (u8s bs) →
  Calls Try.prog 26 #[.slice A l.length c, .slice B bs.length d] w fun e w' => e = .returned (strV (if Bm.WholeI l then Bm.encT (l.map Int.toNat) bs else none)) ∧ Below w.heap.size w w'
def LDecOk : Prop := ∀ (w : World) (A : Option Addr) (c : Nat) (l : List Int) (s : List Nat) (n : Int), l.length ≤ 1000000000 → l.length ≤ c → (∀ x ∈ l, Bm.IntOk x) → s.length ≤ 1000 → (∀ x ∈ s, x < 256) → Bm.IntOk n → Reads w A (i64z l) →
  Calls Try.prog 39 #[.slice A l.length c, .string (strOf s), .int .i64 n] w fun e w' => BytesQ w' e (if Bm.WholeI l ∧ 0 ≤ n ∧ n ≤ 1048576 then Bm.decT (l.map Int.toNat) s n.toNat else none) ∧ Below w.heap.size w w'
end Go.Proofs.Ytgcfdjgfnagmjaa
