/-
  A family of slices of ints that the call owns, no two of them in one block. No condition.
  A family of slices of bytes that the call owns, no two of them in one block. No condition.
-/
import Derived.Test.YtbdciiiimdbmkaaGreatGap
import Derived.OneCell
import Derived.Lib.OwnKind
import Derived.Maps.AppendAt
namespace Go.Proofs.YtbdciiiimdbmkaaGreat
open Go.RowKit
/-- The slices vs, each owned, read as the lists L; no two lie in one block. -/
structure Fam (w : World) (base : Nat) (vs : List Value) (L : Nat → List Nat) : Prop where
  own : ∀ (s : Nat) (v : Value), vs[s]? = some v → w.ownsRow base 3 1 v (L s).length (i64s (L s))
  apart : ∀ (s t : Nat) (v u : Value) (g : Nat), s ≠ t → vs[s]? = some v → vs[t]? = some u → v.ownBlock = some g → u.ownBlock ≠ some g
section
variable {w w' : World} {base : Nat} {vs : List Value} {L L' : Nat → List Nat}
theorem Fam.nils (w : World) (base n : Nat) (hL : ∀ s, L s = []) : Fam w base (List.replicate n (.slice none 0 0)) L where
  own := fun s v hv => by
    rw [List.getElem?_replicate] at hv
    split at hv
    · injection hv with hv
      subst hv
      rw [hL s]
      exact World.ownsRow_nil _ _ _ _
    · cases hv
  apart := fun s t v u g _ hv _ hg => by
    rw [List.getElem?_replicate] at hv
    split at hv
    · injection hv with hv
      subst hv
      simp [Value.ownBlock] at hg
    · cases hv
theorem Fam.below (h : Fam w base vs L) (hb : Below w.heap.size w w') : Fam w' base vs L := ⟨fun s v hv => own_below (h.own s v hv) hb, h.apart⟩
theorem Fam.notT (h : Fam w base vs L) {b : Nat} {t : TypeId} {cs : List Value} (hr : Row w b t cs) (hne : t ≠ 3) : ∀ (s : Nat) (v : Value), vs[s]? = some v → v.ownBlock ≠ some b := by
  intro s v hv hb
  obtain ⟨c, fz, hk⟩ := Lib.ownsRow_kind (h.own s v hv) b hb
  unfold Row at hr
  rw [hr] at hk
  injection hk with hk
  injection hk with _ hk
  exact hne hk
theorem Fam.far (h : Fam w base vs L) {p : Addr} (hp : ∀ (s : Nat) (v : Value), vs[s]? = some v → v.ownBlock ≠ some p.block) (u : Value) : Fam (w.setCell p u) base vs L := ⟨fun s v hv => ownsRow_setCell_other (h.own s v hv) (hp s v hv) u, h.apart⟩
theorem Fam.push (h : Fam w base vs L) {s : Nat} {v : Value} (hv : vs[s]? = some v) {g n cap : Nat} (hg : w.grownBy w' v.ownBlock) (hat : v.ownBlock = some g ∨ g = w.heap.size)
    (hown : w'.ownsRow base 3 1 (.slice (some ⟨g, 0, none⟩) n cap) n (i64s (L' s))) (hn : (L' s).length = n) (hL : ∀ t, t ≠ s → L' t = L t) : Fam w' base (vs.set s (.slice (some ⟨g, 0, none⟩) n cap)) L' where
  own := fun t u hu => by
    by_cases e : s = t
    · subst e
      have hl : s < vs.length := (List.getElem?_eq_some_iff.1 hv).1
      rw [List.getElem?_set_self hl] at hu
      injection hu with hu
      subst hu
      rw [hn]
      exact hown
    · rw [List.getElem?_set_ne e] at hu
      rw [hL t (Ne.symm e)]
      refine (h.own t u hu).kept hg ?_
      rcases hq : u.ownBlock with _ | q
      · exact .inl rfl
      · exact .inr (fun hh => h.apart t s u v q (Ne.symm e) hu hv hq hh.symm)
  apart := fun a b x y q hab hx hy hq => by
    have hl : s < vs.length := (List.getElem?_eq_some_iff.1 hv).1
    have key : ∀ t u, t ≠ s → vs[t]? = some u → u.ownBlock ≠ some g := fun t u ht hu he => by
      rcases hat with h1 | h1
      · exact h.apart t s u v g ht hu hv he h1
      · have := ((h.own t u hu).lt g he).2
        omega
    by_cases ea : s = a
    · subst ea
      rw [List.getElem?_set_self hl] at hx
      rw [List.getElem?_set_ne hab] at hy
      injection hx with hx
      subst hx
      simp only [Value.ownBlock, Option.some.injEq] at hq
      subst hq
      exact key b y (Ne.symm hab) hy
    · rw [List.getElem?_set_ne ea] at hx
      by_cases eb : s = b
      · subst eb
        rw [List.getElem?_set_self hl] at hy
        injection hy with hy
        subst hy
        intro he
        simp only [Value.ownBlock, Option.some.injEq] at he
        subst he
        exact key a x (Ne.symm ea) hx hq
      · rw [List.getElem?_set_ne eb] at hy
        exact h.apart a b x y q hab hx hy hq
end
end Go.Proofs.YtbdciiiimdbmkaaGreat

namespace Go.Proofs.YtbdciiiimdbmkaaGreat
open Go.RowKit
/-- The slices vs, each owned, read as the lists L; no two lie in one block. -/
structure FamB (w : World) (base : Nat) (vs : List Value) (L : Nat → List Nat) : Prop where
  own : ∀ (s : Nat) (v : Value), vs[s]? = some v → w.ownsRow base 5 1 v (L s).length (u8s (L s))
  apart : ∀ (s t : Nat) (v u : Value) (g : Nat), s ≠ t → vs[s]? = some v → vs[t]? = some u → v.ownBlock = some g → u.ownBlock ≠ some g
section
variable {w w' : World} {base : Nat} {vs : List Value} {L L' : Nat → List Nat}
theorem FamB.nils (w : World) (base n : Nat) (hL : ∀ s, L s = []) : FamB w base (List.replicate n (.slice none 0 0)) L where
  own := fun s v hv => by
    rw [List.getElem?_replicate] at hv
    split at hv
    · injection hv with hv
      subst hv
      rw [hL s]
      exact World.ownsRow_nil _ _ _ _
    · cases hv
  apart := fun s t v u g _ hv _ hg => by
    rw [List.getElem?_replicate] at hv
    split at hv
    · injection hv with hv
      subst hv
      simp [Value.ownBlock] at hg
    · cases hv
theorem FamB.below (h : FamB w base vs L) (hb : Below w.heap.size w w') : FamB w' base vs L := ⟨fun s v hv => own_below (h.own s v hv) hb, h.apart⟩
theorem FamB.notT (h : FamB w base vs L) {b : Nat} {t : TypeId} {cs : List Value} (hr : Row w b t cs) (hne : t ≠ 5) : ∀ (s : Nat) (v : Value), vs[s]? = some v → v.ownBlock ≠ some b := by
  intro s v hv hb
  obtain ⟨c, fz, hk⟩ := Lib.ownsRow_kind (h.own s v hv) b hb
  unfold Row at hr
  rw [hr] at hk
  injection hk with hk
  injection hk with _ hk
  exact hne hk
theorem FamB.far (h : FamB w base vs L) {p : Addr} (hp : ∀ (s : Nat) (v : Value), vs[s]? = some v → v.ownBlock ≠ some p.block) (u : Value) : FamB (w.setCell p u) base vs L := ⟨fun s v hv => ownsRow_setCell_other (h.own s v hv) (hp s v hv) u, h.apart⟩
theorem FamB.push (h : FamB w base vs L) {s : Nat} {v : Value} (hv : vs[s]? = some v) {g n cap : Nat} (hg : w.grownBy w' v.ownBlock) (hat : v.ownBlock = some g ∨ g = w.heap.size)
    (hown : w'.ownsRow base 5 1 (.slice (some ⟨g, 0, none⟩) n cap) n (u8s (L' s))) (hn : (L' s).length = n) (hL : ∀ t, t ≠ s → L' t = L t) : FamB w' base (vs.set s (.slice (some ⟨g, 0, none⟩) n cap)) L' where
  own := fun t u hu => by
    by_cases e : s = t
    · subst e
      have hl : s < vs.length := (List.getElem?_eq_some_iff.1 hv).1
      rw [List.getElem?_set_self hl] at hu
      injection hu with hu
      subst hu
      rw [hn]
      exact hown
    · rw [List.getElem?_set_ne e] at hu
      rw [hL t (Ne.symm e)]
      refine (h.own t u hu).kept hg ?_
      rcases hq : u.ownBlock with _ | q
      · exact .inl rfl
      · exact .inr (fun hh => h.apart t s u v q (Ne.symm e) hu hv hq hh.symm)
  apart := fun a b x y q hab hx hy hq => by
    have hl : s < vs.length := (List.getElem?_eq_some_iff.1 hv).1
    have key : ∀ t u, t ≠ s → vs[t]? = some u → u.ownBlock ≠ some g := fun t u ht hu he => by
      rcases hat with h1 | h1
      · exact h.apart t s u v g ht hu hv he h1
      · have := ((h.own t u hu).lt g he).2
        omega
    by_cases ea : s = a
    · subst ea
      rw [List.getElem?_set_self hl] at hx
      rw [List.getElem?_set_ne hab] at hy
      injection hx with hx
      subst hx
      simp only [Value.ownBlock, Option.some.injEq] at hq
      subst hq
      exact key b y (Ne.symm hab) hy
    · rw [List.getElem?_set_ne ea] at hx
      by_cases eb : s = b
      · subst eb
        rw [List.getElem?_set_self hl] at hy
        injection hy with hy
        subst hy
        intro he
        simp only [Value.ownBlock, Option.some.injEq] at he
        subst he
        exact key a x (Ne.symm ea) hx hq
      · rw [List.getElem?_set_ne eb] at hy
        exact h.apart a b x y q hab hx hy hq
end
end Go.Proofs.YtbdciiiimdbmkaaGreat
