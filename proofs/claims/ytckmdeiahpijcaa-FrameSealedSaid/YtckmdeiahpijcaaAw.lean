/-
  'append(s, x...)' of two lists that the call owns, nil or not. No condition beyond the laws' own.
-/
import Derived.Test.YtckmdeiahpijcaaGw
import Derived.Laws.AppendOwnNone
namespace Go.Proofs.Ytckmdeiahpijcaa
open Go.RowKit
/-- 'append(s, x...)', both the call's own: nil, or not. -/
theorem wpList_append_two {P : Program} {w : World} {ops : Array Oper} {rest : List Oper} {o : Oper} {a : Act} {Q : Exit → Act → World → Prop} (hgd : o.guard = none) (s x : Operand) (t : TypeId)
    (ho : o.op = .call { callee := .builtin .append, args := #[s, x], argTypes := #[t, t] })
    (base : Nat) (e : TypeId) (i : TypeInfo) (z : Value) (size bytes : Nat) (ht : P.underlying t = some (.slice e)) (hi : P.info? e = some i) (hz : i.zero = some z)
    (hsize : i.size = size) (hby : i.bytes = bytes) (hzs : z.cells.size = size) (hsz : 0 < size)
    (v : Value) (n : Nat) (xs : List Value) (hs : a.eval s = v) (hown : w.ownsRow base e size v n xs)
    (u : Value) (m : Nat) (news : List Value) (hx : a.eval x = u) (base' : Nat) (hnew : w.ownsRow base' e size u m news) (h1 : ∀ u ∈ news, u.oneCell' = true)
    (h63 : n + m ≤ maxLen) (hbytes : (n + m) * bytes ≤ 140737488355328) (hbase : base ≤ w.heap.size)
    (h : ∀ v' w', w'.ownsRow base e size v' (n + m) (xs ++ news) → w.grownBy w' v.ownBlock → wpList P ops Q rest (a.put o.dst v') w') : wpList P ops Q (o :: rest) a w := by
  rcases hnew.2 with ⟨hu, hm⟩ | ⟨g, cap, cur, hu, _⟩
  · have hnil : news = [] := List.eq_nil_of_length_eq_zero (by rw [hnew.1, hm, Nat.zero_mul])
    refine wpList_append_own_none hgd s x t ho base e i size ht hi v n xs hs hown (hx.trans hu) (h v w ?_ (grown_refl _ _))
    rw [hm, hnil, List.append_nil]
    exact hown
  · exact wpList_append_own (P := P) w hgd s x t ho base e i z size bytes ht hi hz hsize hby hzs hsz v n xs hs hown ⟨g, 0, none⟩ m cap news (hx.trans hu) hnew.1 (hnew.cells (by rw [hu]; rfl)) h1 h63 hbytes hbase (fun v' w' a b _ => h v' w' a b)
end Go.Proofs.Ytckmdeiahpijcaa
