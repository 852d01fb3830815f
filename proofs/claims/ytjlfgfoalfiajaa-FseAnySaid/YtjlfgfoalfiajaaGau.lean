/-
  The program's layer 7 (fse): its calls answer what the laws' walks ask for. No condition beyond what that says.
-/
import Derived.Test.YtjlfgfoalfiajaaGaq
import Derived.Test.YtjlfgfoalfiajaaGap
import Derived.Test.YtjlfgfoalfiajaaGao
import Derived.Test.YtjlfgfoalfiajaaGat
import Derived.Test.YtjlfgfoalfiajaaGar
namespace Go.Proofs.Ytjlfgfoalfiajaa
open Go.RowKit

theorem edec_any (w : World) (p : Addr) (ls : List Nat) (log : Nat) (A : Option Addr) (c : Nat) (bs : List Nat) (n : Int) (hf : Bm.FairN ls log) (ht : STab w p ls log) (hs : bs.length ≤ 10000) (hbs : ∀ x ∈ bs, x < 256) (hr : Reads w A (u8s bs)) :
    Calls Try.prog 13 #[.pointer (some p), .slice A bs.length c, .int .i64 n] w fun e w' => BytesP w' e (Bm.decB ls log bs n) ∧ Below w.heap.size w w' := by
  by_cases hn : n < 0 ∨ 1048576 < n
  · have hx : Bm.decB ls log bs n = none := by
      unfold Bm.decB
      cases Bm.openN bs with
      | none => rfl
      | some t => rw [Option.bind_some]; unfold Bm.decA; rw [if_neg (by omega)]
    rw [hx]
    exact edec_out w p ls log A bs.length c n hf ht hn
  · obtain ⟨m, rfl⟩ := Int.eq_ofNat_of_zero_le (show 0 ≤ n by omega)
    rcases open_bits A c bs w hs hbs hr with ⟨ho, hc⟩ | ⟨M, L, ho, hM, hval, hL, hc⟩
    · have hx : Bm.decB ls log bs (m : Int) = none := by unfold Bm.decB; rw [ho]; rfl
      rw [hx]
      exact edec_none w p ls log A bs.length c m none false hf ht (by omega) (hc.mono fun e w' ⟨he, hb⟩ => ⟨he, hb, btk_nil w' _⟩)
    · by_cases hfew : L < log
      · have hx : Bm.decB ls log bs (m : Int) = none := by
          unfold Bm.decB
          rw [ho, Option.bind_some]
          unfold Bm.decA
          rw [if_neg (by omega)]
        rw [hx]
        have h9 := hf.high
        refine edec_few w p ls log A bs.length c m hf ht (by omega) (hc.mono fun e w' ⟨b, he, hts, hb⟩ => ⟨b, he, hb, btk_few w.heap.size b L bs log w' (by omega) hfew hts⟩)
      · obtain ⟨q, rfl⟩ : ∃ q, L = q + log := ⟨L - log, by omega⟩
        have hx : Bm.decB ls log bs (m : Int) = Bm.decR ls log m (M % 2 ^ q) q (M / 2 ^ q) := by
          unfold Bm.decB
          rw [ho, Option.bind_some]
          unfold Bm.decA
          rw [if_pos ⟨rfl, by omega, by omega, by omega⟩, Int.toNat_natCast, Nat.add_sub_cancel]
        rw [hx]
        exact edec_some w p ls log A c m M q bs hf ht (by omega) hs hbs hM hval hL hc

theorem fse_is : FseOk STab where
  enc := fun w p ls log A c syms hf ht hs hlt hr => eenc_any w p ls log A c syms hf ht hs hlt hr
  encNil := fun w A n c => eenc_nil w A n c
  dec := fun w p ls log A c bs n hf ht hs hb _ hr => edec_any w p ls log A c bs n hf ht hs hb hr
  decNil := fun w A m c n _ => edec_nil w A m c n
  bits := fun w p ls log A c syms hf ht hs hlt hr => ebits_any w p ls log A c syms hf ht hs hlt hr
end Go.Proofs.Ytjlfgfoalfiajaa
