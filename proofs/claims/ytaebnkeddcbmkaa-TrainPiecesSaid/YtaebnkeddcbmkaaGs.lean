/-
  A map from strings to ints that the call made, told as a function: what a look-up, a store, a delete do; for the walk. No condition beyond each theorem's premises.
-/
import Derived.Test.YtaebnkeddcbmkaaGw
import Derived.Test.YtaebnkeddcbmkaaGm
import Derived.Maps.OwnSet
import Derived.Maps.AppendAt
namespace Go.Proofs.Ytaebnkeddcbmkaa
open Go.RowKit Go.Maps Go.Proofs.Ytaebnkeddcbmkaa.Bm
open Go.WideMaps (keyOf_string_mk)
theorem skey : Keyed Try.prog 9 := string_keyed Try.underlying9
theorem zero_in (w : World) : (zeroValue 3).run Try.prog w = .ok (.int .i64 0) w := by kernel_rfl
/-- A string as a key. -/
def kS (s : ByteArray) : Lit := .string s.data.toList
theorem kS_key (s : ByteArray) : WideAt.IsKeyLit (kS s) := trivial
theorem kS_inj {s t : ByteArray} (h : s ≠ t) : kS s ≠ kS t := fun e => by
  injection e with e
  exact h (ByteArray.ext (Array.toList_inj.1 e))
/-- A function turned at one text. -/
def updM (F : ByteArray → Option Nat) (s : ByteArray) (o : Option Nat) : ByteArray → Option Nat := fun u => if u = s then o else F u
theorem updM_same (F : ByteArray → Option Nat) (s : ByteArray) (o : Option Nat) : updM F s o s = o := if_pos rfl
theorem updM_other (F : ByteArray → Option Nat) {s u : ByteArray} (o : Option Nat) (h : u ≠ s) : updM F s o u = F u := if_neg h
/-- Block b is a map of at most n entries that has at s what F says. -/
def MapP (w : World) (b n : Nat) (F : ByteArray → Option Nat) : Prop := ∃ D : DataW Unit, w.ownsMap Try.prog 9 (plainElem Try.prog 3) b n D ∧
  ∀ s : ByteArray, Maps.has D (kS s) = (F s).isSome ∧ D.atKey (kS s) (.lit (.int .i64 0)) = .lit (.int .i64 (((F s).getD 0 : Nat) : Int))
section
variable {w w' : World} {b n : Nat} {F : ByteArray → Option Nat}
theorem mapP_made (w : World) : MapP (w.alloc (.map #[] 0)) w.heap.size 0 (fun _ => none) := ⟨.map [], World.ownsMap_made _ _ _ _, fun _ => ⟨rfl, rfl⟩⟩
theorem MapP.lt (h : MapP w b n F) : b < w.heap.size := by obtain ⟨D, h1, _⟩ := h; exact h1.lt
theorem MapP.mono (h : MapP w b n F) {n' : Nat} (hn : n ≤ n') : MapP w b n' F := by obtain ⟨D, h1, h2⟩ := h; exact ⟨D, h1.mono hn, h2⟩
theorem MapP.keep (h : MapP w b n F) (hb : w'.heap[b]? = w.heap[b]?) : MapP w' b n F := by
  obtain ⟨D, ⟨es, clock, h1, h2⟩, h3⟩ := h
  exact ⟨D, ⟨es, clock, hb.trans h1, h2⟩, h3⟩
theorem MapP.kept {row : Option Nat} (h : MapP w b n F) (hg : w.grownBy w' row) (hne : some b ≠ row) : MapP w' b n F := h.keep (hg.block b h.lt hne)
theorem MapP.below (h : MapP w b n F) (hb : Below w.heap.size w w') : MapP w' b n F := h.keep (hb.block b h.lt)
/-- A map is no row. -/
theorem MapP.noRow (h : MapP w b n F) (t : TypeId) (cs : List Value) : ¬ Row w b t cs := fun hr => by
  obtain ⟨D, ⟨es, clock, h1, _⟩, _⟩ := h
  unfold Row at hr
  rw [h1] at hr
  cases hr
theorem MapP.ne {g : Nat} {t : TypeId} {cs : List Value} (h : MapP w b n F) (hr : Row w g t cs) : b ≠ g := by
  rintro rfl
  exact h.noRow t cs hr
end
section
variable (w : World) {ops : Array Oper} {rest : List Oper} {o : Oper} {a : Act} {Q : Exit → Act → World → Prop}
theorem wpM_look (hg : o.guard = none) (m x : Operand) (t : TypeId) (hop : o.op = Op.lookup t m x false) (ht : Try.prog.underlying t = some (.map 9 3)) (b n : Nat) (F : ByteArray → Option Nat)
    (hm : a.eval m = .map (some b)) (hown : MapP w b n F) (s : ByteArray) (v : Nat) (hv : (F s).getD 0 = v) (hx : a.eval x = .string s) (hs : s.size ≤ maxLen)
    (hK : wpList Try.prog ops Q rest (a.put o.dst (.int .i64 (v : Int))) w) : wpList Try.prog ops Q (o :: rest) a w := by
  obtain ⟨D, h1, h2⟩ := hown
  refine wpList_lookup_own_int w hg m x t hop 9 3 .i64 skey ht Try.underlying3 (zero_in w) b n D hm h1 _ (kS s) hx (keyOf_string_mk Try.underlying9 hs) ?_
  intro c hat _
  rw [(h2 s).2] at hat
  injection hat with hat
  injection hat with _ hat
  rw [← hat, hv]
  exact hK
theorem wpM_look_ok (hg : o.guard = none) (m x : Operand) (t : TypeId) (hop : o.op = Op.lookup t m x true) (ht : Try.prog.underlying t = some (.map 9 3)) (b n : Nat) (F : ByteArray → Option Nat)
    (hm : a.eval m = .map (some b)) (hown : MapP w b n F) (s : ByteArray) (v : Nat) (ok : Bool) (hv : (F s).getD 0 = v) (hok : (F s).isSome = ok) (hx : a.eval x = .string s) (hs : s.size ≤ maxLen)
    (hK : wpList Try.prog ops Q rest (a.put o.dst (.tuple #[.int .i64 (v : Int), .bool ok])) w) : wpList Try.prog ops Q (o :: rest) a w := by
  obtain ⟨D, h1, h2⟩ := hown
  refine wpList_lookup_own_ok_int w hg m x t hop 9 3 .i64 skey ht Try.underlying3 (zero_in w) b n D hm h1 _ (kS s) hx (keyOf_string_mk Try.underlying9 hs) ?_
  intro c hat _
  rw [(h2 s).2] at hat
  injection hat with hat
  injection hat with _ hat
  rw [← hat, (h2 s).1, hv, hok]
  exact hK
theorem wpM_store (hg : o.guard = none) (m x v : Operand) (t : TypeId) (hop : o.op = Op.mapUpdate t m x v) (ht : Try.prog.underlying t = some (.map 9 3)) (b n : Nat) (F : ByteArray → Option Nat)
    (hm : a.eval m = .map (some b)) (hown : MapP w b n F) (hn : n ≤ 1000000000) (s : ByteArray) (y : Int) (k : Nat) (hx : a.eval x = .string s) (hv : a.eval v = .int .i64 y) (hy : y = (k : Int)) (hk : k ≤ 1000000000) (hs : s.size ≤ maxLen)
    (hK : ∀ w', MapP w' b (n + 1) (updM F s (some k)) → w.grownBy w' (some b) → wpList Try.prog ops Q rest (a.put o.dst undef) w') : wpList Try.prog ops Q (o :: rest) a w := by
  obtain ⟨D, h1, h2⟩ := hown
  subst hy
  refine wpList_mapUpdate_own w hg m x v t hop 9 3 skey ht _ b n D hm h1 (by unfold maxLen; omega) _ _ (kS s) hx hv (keyOf_string_mk Try.underlying9 hs) _ [] (plainElem_int Try.underlying3 (WalkArith.wf_i64 (by omega))) ?_
  intro w' h3 h4
  refine hK w' ⟨_, h3, fun u => ?_⟩ h4
  by_cases e : u = s
  · subst e
    rw [updM_same]
    exact ⟨has_put_same h1.isMap (kS_key u) _, atKey_put_same h1.isMap (kS_key u) _ _⟩
  · rw [updM_other F _ e, has_put_other (kS_inj e), atKey_put_other (kS_inj e)]
    exact h2 u
theorem wpM_delete (hg : o.guard = none) (m x : Operand) (t : TypeId) (hop : o.op = Op.call { callee := Callee.builtin Builtin.delete, args := #[m, x], argTypes := #[t, 9] }) (ht : Try.prog.underlying t = some (.map 9 3)) (b n : Nat) (F : ByteArray → Option Nat)
    (hm : a.eval m = .map (some b)) (hown : MapP w b n F) (s : ByteArray) (hx : a.eval x = .string s) (hs : s.size ≤ maxLen)
    (hK : ∀ w', MapP w' b n (updM F s none) → w.grownBy w' (some b) → wpList Try.prog ops Q rest (a.put o.dst (.tuple #[])) w') : wpList Try.prog ops Q (o :: rest) a w := by
  obtain ⟨D, h1, h2⟩ := hown
  refine wpList_delete_own w hg m x t 9 hop 3 skey ht _ b n D hm h1 _ (kS s) hx (keyOf_string_mk Try.underlying9 hs) ?_
  intro w' h3 h4
  refine hK w' ⟨_, h3, fun u => ?_⟩ h4.grown
  by_cases e : u = s
  · subst e
    rw [updM_same]
    exact ⟨has_del_same, atKey_del_same _⟩
  · rw [updM_other F _ e, has_del_other (kS_inj e), atKey_del_other (kS_inj e)]
    exact h2 u
end
end Go.Proofs.Ytaebnkeddcbmkaa
