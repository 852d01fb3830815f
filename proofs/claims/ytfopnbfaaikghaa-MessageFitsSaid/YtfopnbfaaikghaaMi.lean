/-
  The program's layer 25 (message): what Decode holds, and what its calls read. No condition.
-/
import Derived.Test.YtfopnbfaaikghaaMf
import Derived.Test.YtfopnbfaaikghaaEg
namespace Go.Proofs.Ytfopnbfaaikghaa
open Go.RowKit

def zmL : List Value := [.int .i64 0, .int .i64 0, .int .i64 0, .int .i64 0, .int .u64 0, .string ⟨#[]⟩]
theorem zms_V : msV zms = .agg zmL.toArray := rfl
theorem ZmRow.cells {w : World} {g : Nat} (h : Row w g 24 zmL) :
    w.cell? ⟨g, 0, none⟩ = some (.int .i64 0) ∧ w.cell? ⟨g, 1, none⟩ = some (.int .i64 0) ∧ w.cell? ⟨g, 2, none⟩ = some (.int .i64 0) ∧ w.cell? ⟨g, 3, none⟩ = some (.int .i64 0) ∧ w.cell? ⟨g, 4, none⟩ = some (.int .u64 0) ∧ w.cell? ⟨g, 5, none⟩ = some (.string ⟨#[]⟩) :=
  ⟨h.cell 0, h.cell 1, h.cell 2, h.cell 3, h.cell 4, h.cell 5⟩
theorem Ms6.cells {w : World} {g : Nat} {v0 v1 v2 v3 v4 v5 : Value} (h : Row w g 24 [v0, v1, v2, v3, v4, v5]) :
    w.cell? ⟨g, 0, none⟩ = some v0 ∧ w.cell? ⟨g, 1, none⟩ = some v1 ∧ w.cell? ⟨g, 2, none⟩ = some v2 ∧ w.cell? ⟨g, 3, none⟩ = some v3 ∧ w.cell? ⟨g, 4, none⟩ = some v4 ∧ w.cell? ⟨g, 5, none⟩ = some v5 :=
  ⟨h.cell 0, h.cell 1, h.cell 2, h.cell 3, h.cell 4, h.cell 5⟩
theorem Ms.free {w : World} {g : Nat} {cs : List Value} (h : Row w g 24 cs) :
    w.frozen? ⟨g, 0, none⟩ = false ∧ w.frozen? ⟨g, 1, none⟩ = false ∧ w.frozen? ⟨g, 2, none⟩ = false ∧ w.frozen? ⟨g, 3, none⟩ = false ∧ w.frozen? ⟨g, 4, none⟩ = false ∧ w.frozen? ⟨g, 5, none⟩ = false :=
  ⟨h.free 0, h.free 1, h.free 2, h.free 3, h.free 4, h.free 5⟩
theorem ms_row {w : World} {g : Nat} {cs : List Value} (h : Row w g 24 cs) (hl : cs.length = 6) (v0 v1 v2 v3 v4 v5 : Value) :
    Row ((((((w.setCell ⟨g, 0, none⟩ v0).setCell ⟨g, 1, none⟩ v1).setCell ⟨g, 2, none⟩ v2).setCell ⟨g, 3, none⟩ v3).setCell ⟨g, 4, none⟩ v4).setCell ⟨g, 5, none⟩ v5) g 24 [v0, v1, v2, v3, v4, v5] := by
  have h1 := (((((h.set_ 0 v0).set_ 1 v1).set_ 2 v2).set_ 3 v3).set_ 4 v4).set_ 5 v5
  match cs, hl with
  | [_, _, _, _, _, _], _ => exact h1
theorem ms_grown (w : World) (g : Nat) (v0 v1 v2 v3 v4 v5 : Value) :
    w.grownBy ((((((w.setCell ⟨g, 0, none⟩ v0).setCell ⟨g, 1, none⟩ v1).setCell ⟨g, 2, none⟩ v2).setCell ⟨g, 3, none⟩ v3).setCell ⟨g, 4, none⟩ v4).setCell ⟨g, 5, none⟩ v5) (some g) :=
  grown_set (grown_set (grown_set (grown_set (grown_set (grown_set (grown_refl _ _) _ _) _ _) _ _) _ _) _ _) _ _
/-- What Decode holds: the frame, the message that it answers, the kind's body, the Reader. -/
structure DeP (w : World) (g r h q : Nat) (k : Int) (t : ByteArray) (b : Bdy) (st : Left) (W : World) : Prop where
  fr : Row W g 28 [.int .i64 k, .string t]
  rs : Row W r 24 zmL
  bd : Row W h 44 (bdL b)
  rd : CR W q st
  below : Below w.heap.size w W
  own : w.heap.size ≤ q ∧ g ≠ q ∧ r ≠ q ∧ h ≠ q ∧ w.heap.size ≤ r
theorem DeP.read {w W W' : World} {g r h q : Nat} {k : Int} {t : ByteArray} {b : Bdy} {st st' : Left} (H : DeP w g r h q k t b st W) (hc : CR W' q st') (hg : W.grownBy W' (some q)) : DeP w g r h q k t b st' W' :=
  ⟨H.fr.keep (hg.block g H.fr.lt (fun e => H.own.2.1 (by injection e))), H.rs.keep (hg.block r H.rs.lt (fun e => H.own.2.2.1 (by injection e))), H.bd.keep (hg.block h H.bd.lt (fun e => H.own.2.2.2.1 (by injection e))), hc,
    H.below.trans (below_grown hg H.own.1 H.below.size), H.own⟩
theorem DeP.quiet {w W W' : World} {g r h q : Nat} {k : Int} {t : ByteArray} {b : Bdy} {st : Left} (H : DeP w g r h q k t b st W) (hb : Below W.heap.size W W') : DeP w g r h q k t b st W' :=
  ⟨kept H.fr hb, kept H.rs hb, kept H.bd hb, H.rd.below hb, H.below.trans (hb.mono H.below.size), H.own⟩
theorem DeP.drew {w W : World} {g r h q : Nat} {k : Int} {t : ByteArray} {b : Bdy} {st : Left} (H : DeP w g r h q k t b st W) : DeP w g r h q k t b st W.drew := H.quiet (Below.refl _ _).drew
/-- What a region that takes from the Reader asks of the world. -/
theorem DeP.held {w W : World} {g r h q : Nat} {k : Int} {t : ByteArray} {b : Bdy} {st : Left} (H : DeP w g r h q k t b st W) :
    W.cell? ⟨g, 0, none⟩ = some (.int .i64 k) ∧ W.cell? ⟨h, 0, none⟩ = some (.int .i64 b.next.least) ∧ W.cell? ⟨h, 1, none⟩ = some (.int .i64 b.next.most) ∧ W.cell? ⟨h, 2, none⟩ = some (.int .i64 b.epoch.least) ∧ W.cell? ⟨h, 3, none⟩ = some (.int .i64 b.epoch.most) ∧ W.cell? ⟨h, 4, none⟩ = some (.int .i64 b.size.least) ∧ W.cell? ⟨h, 5, none⟩ = some (.int .i64 b.size.most) :=
  ⟨H.fr.cell 0, H.bd.cell 0, H.bd.cell 1, H.bd.cell 2, H.bd.cell 3, H.bd.cell 4, H.bd.cell 5⟩
/-- And the message that it makes. -/
structure DeS (w : World) (g r h q p : Nat) (k : Int) (t : ByteArray) (b : Bdy) (st : Left) (cs : List Value) (W : World) : Prop where
  base : DeP w g r h q k t b st W
  ms : Row W p 24 cs
  own : w.heap.size ≤ p ∧ g ≠ p ∧ r ≠ p ∧ h ≠ p ∧ q ≠ p
theorem DeS.read {w W W' : World} {g r h q p : Nat} {k : Int} {t : ByteArray} {b : Bdy} {st st' : Left} {cs : List Value} (H : DeS w g r h q p k t b st cs W) (hc : CR W' q st') (hg : W.grownBy W' (some q)) : DeS w g r h q p k t b st' cs W' :=
  ⟨H.base.read hc hg, H.ms.keep (hg.block p H.ms.lt (fun e => H.own.2.2.2.2 (by injection e with e; exact e.symm))), H.own⟩
theorem DeS.quiet {w W W' : World} {g r h q p : Nat} {k : Int} {t : ByteArray} {b : Bdy} {st : Left} {cs : List Value} (H : DeS w g r h q p k t b st cs W) (hb : Below W.heap.size W W') : DeS w g r h q p k t b st cs W' :=
  ⟨H.base.quiet hb, kept H.ms hb, H.own⟩
theorem DeS.drew {w W : World} {g r h q p : Nat} {k : Int} {t : ByteArray} {b : Bdy} {st : Left} {cs : List Value} (H : DeS w g r h q p k t b st cs W) : DeS w g r h q p k t b st cs W.drew := H.quiet (Below.refl _ _).drew
/-- The message is another one. -/
theorem DeS.note {w W W' : World} {g r h q p : Nat} {k : Int} {t : ByteArray} {b : Bdy} {st : Left} {cs cs' : List Value} (H : DeS w g r h q p k t b st cs W) (hm : Row W' p 24 cs') (hg : W.grownBy W' (some p)) : DeS w g r h q p k t b st cs' W' :=
  have own := H.base.own
  ⟨⟨H.base.fr.keep (hg.block g H.base.fr.lt (fun e => H.own.2.1 (by injection e))), H.base.rs.keep (hg.block r H.base.rs.lt (fun e => H.own.2.2.1 (by injection e))), H.base.bd.keep (hg.block h H.base.bd.lt (fun e => H.own.2.2.2.1 (by injection e))),
    H.base.rd.keep hg (fun e => H.own.2.2.2.2 (by injection e with e; exact e.symm)), H.base.below.trans (below_grown hg H.own.1 H.base.below.size), H.base.own⟩, hm, H.own⟩
theorem DeP.alloc {w W : World} {g r h q : Nat} {k : Int} {t : ByteArray} {b : Bdy} {st : Left} (H : DeP w g r h q k t b st W) (cs : List Value) : DeS w g r h q W.heap.size k t b st cs (W.alloc (.cells cs.toArray 24)) :=
  have hb : Below W.heap.size W (W.alloc (.cells cs.toArray 24)) := (Below.refl _ _).alloc (Nat.le_refl _) _
  ⟨H.quiet hb, Row.new W _ cs, ⟨H.below.size, Nat.ne_of_lt H.fr.lt, Nat.ne_of_lt H.rs.lt, Nat.ne_of_lt H.bd.lt, Nat.ne_of_lt H.rd.lt⟩⟩
end Go.Proofs.Ytfopnbfaaikghaa
