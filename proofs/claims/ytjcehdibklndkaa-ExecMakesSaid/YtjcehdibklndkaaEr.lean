/-
  What layer 11's calls (chain) answer, put together as the laws' walks ask for it (zfind_is, zlen_is, znil_is). No condition beyond the definitions' own.
-/
import Derived.Test.YtjcehdibklndkaaEj
import Derived.Test.YtjcehdibklndkaaEo
namespace Go.Proofs.Ytjcehdibklndkaa
open Go.RowKit

theorem zfind_is : FindOk FI where
  keep := fun w w' p T P S ⟨b, hp, h, hS⟩ _ hk => ⟨b, hp, h.keep (hk b (by rw [hS])), hS⟩
  lt := fun w p T P S ⟨b, hp, h, hS⟩ k hk => by
    rw [hS] at hk
    have e : k = b := hk
    rw [e]
    exact h.lt
  new := fun w T hT _ => (znew_any w T hT).mono fun e w' ⟨b, he, h, hb, hbel⟩ => ⟨_, _, he, ⟨b, rfl, h, rfl⟩, fun k hk => by have e : k = b := hk; omega, hbel⟩
  note := fun w p T P S a hT hlt ⟨b, hp, h, hS⟩ ha => by
    subst hp hS
    refine (znote_any b T P a w hT hlt ha h).mono ?_
    rintro e w' ⟨he, hpf, hg⟩
    exact ⟨he, ⟨fun k => k = b, ⟨b, rfl, hpf, rfl⟩, fun k hk => .inl hk⟩, ⟨hg.os, hg.tape, hg.output, hg.size, fun k hk hn => hg.block k hk (fun e => hn (show k = b by simp only [Option.some.injEq] at e; omega))⟩⟩
  find := fun w p T P S a depth hT hlt ⟨b, hp, h, hS⟩ ha hd => by
    subst hp
    exact zfind_any b T P a depth w hT hlt ha hd h
theorem zlen_is : ZLen FI := fun w p T P S hT ⟨b, hp, h, hS⟩ => by
  subst hp
  exact (zplen_at b T w h.text).mono fun e w' ⟨he, hw⟩ => ⟨he, by rw [hw]; exact Below.refl _ _⟩

set_option maxHeartbeats 400000 in
set_option maxRecDepth 100000 in
theorem znil_note (w : World) (a : Int) : Calls Try.prog 24 #[.pointer none, .int .i64 a] w fun e w' => e = .returned (.bool false) ∧ Below w.heap.size w w' := by
  have hh := zhas_of none 0 a w (by omega) (zplen_nil w)
  rw [decide_eq_false (by omega)] at hh
  have Hhas := Lib.hid hh
  clear hh
  go_enter Try.func24, Try.ntmps24
  go_wp2_with fail
  refine Hhas.out.mono ?_
  rintro e w1 ⟨rfl, m, rfl⟩
  go_wp2
  go_ret
  exact ⟨rfl, below_drewN (Below.refl _ _) m⟩
set_option maxHeartbeats 400000 in
set_option maxRecDepth 100000 in
theorem znil_find (w : World) (a d : Int) : Calls Try.prog 26 #[.pointer none, .int .i64 a, .int .i64 d] w fun e w' => e = .returned (.tuple #[.int .i64 0, .int .i64 0]) ∧ Below w.heap.size w w' := by
  have hh := zhas_of none 0 a w (by omega) (zplen_nil w)
  rw [decide_eq_false (by omega)] at hh
  have Hhas := Lib.hid hh
  clear hh
  go_enter Try.func26, Try.ntmps26
  go_wp2_with fail
  refine Hhas.out.mono ?_
  rintro e w1 ⟨rfl, m, rfl⟩
  go_wp2
  go_ret2
  exact ⟨rfl, below_drewN (Below.refl _ _) m⟩
theorem znil_is : ZNil := ⟨znil_note, znil_find, fun w => (zplen_nil w).mono fun e w' ⟨he, hw⟩ => ⟨he, by rw [hw]; exact Below.refl _ _⟩⟩
end Go.Proofs.Ytjcehdibklndkaa
