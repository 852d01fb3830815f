/-
  BackSeals (layer 2): the pieces that were put, as a slice that the call owns; what they come to. No condition.
-/
import Derived.Test.YtllgbnolngenhaaYk
import Derived.Test.YtllgbnolngenhaaWc
import Derived.Laws.AppendOwnNone
namespace Go.Proofs.Ytllgbnolngenhaa
open Go.RowKit

theorem enc_snoc (qs : List (Nat × Int)) (v q : Nat) (hq : q ≤ 32) :
    enc (qs ++ [(v, (q : Int))]) (qs ++ [(v, (q : Int))]).length = ((enc qs qs.length).1 + v % 2 ^ q * 2 ^ (enc qs qs.length).2, (enc qs qs.length).2 + q) := by
  have h1 := enc_ok (qs ++ [(v, (q : Int))]) qs.length (by simp) q (by simp) hq
  have h2 : enc (qs ++ [(v, (q : Int))]) qs.length = enc qs qs.length := by
    unfold enc
    rw [List.take_append_of_le_length (Nat.le_refl _)]
  rw [List.length_append, List.length_singleton, h1, h2]
  simp

/-- The cells of pieces, one behind the other. -/
def pcells (qs : List (Nat × Int)) : List Value := qs.flatMap fun p => [.int .u32 (p.1 : Int), .int .i64 p.2]
theorem pcells_length (qs : List (Nat × Int)) : (pcells qs).length = qs.length * 2 := by
  induction qs with
  | nil => rfl
  | cons p qs ih => simp only [pcells, List.flatMap_cons, List.length_append, List.length_cons, List.length_nil] at ih ⊢; omega
theorem pcells_snoc (qs : List (Nat × Int)) (v : Nat) (z : Int) : pcells qs ++ [.int .u32 (v : Int), .int .i64 z] = pcells (qs ++ [(v, z)]) := by simp [pcells]
theorem pcells_get (qs : List (Nat × Int)) (j : Nat) (h : j < qs.length) : (pcells qs)[j * 2]? = some (.int .u32 (qs[j].1 : Int)) ∧ (pcells qs)[j * 2 + 1]? = some (.int .i64 qs[j].2) := by
  induction qs generalizing j with
  | nil => simp at h
  | cons p qs ih =>
    cases j with
    | zero => simp [pcells]
    | succ j =>
      have h1 := ih j (by simpa using h)
      have e : pcells (p :: qs) = .int .u32 (p.1 : Int) :: .int .i64 p.2 :: pcells qs := by simp [pcells]
      rw [e, show (j + 1) * 2 = j * 2 + 1 + 1 by omega]
      simpa using h1
theorem info_p : (Try.prog.info? 31).map (fun i => (i.zero, i.size, i.bytes)) = some (some (.agg #[.int .u32 0, .int .i64 0]), 2, 16) := by kernel_rfl

theorem ownK_notT {w : World} {base size : Nat} {e t : TypeId} {v : Value} {n : Nat} {xs : List Value} (h : w.ownsRow base e size v n xs) (hne : e ≠ t) : ∀ g, v.ownBlock = some g → NotT w g t := by
  intro g hg
  rcases h.2 with ⟨rfl, _⟩ | ⟨g', cap, cur, rfl, _, hh, _⟩
  · simp [Value.ownBlock] at hg
  · have e : g' = g := by simpa [Value.ownBlock] using hg
    subst e
    exact ⟨_, _, _, hh, hne⟩
/-- Two slices that the call owns, of elements of unlike types, lie in unlike blocks. -/
theorem own_apart {w : World} {base base' size size' : Nat} {e e' : TypeId} {v v' : Value} {n n' : Nat} {xs xs' : List Value} (h : w.ownsRow base e size v n xs) (h' : w.ownsRow base' e' size' v' n' xs') (hne : e ≠ e') : v.ownBlock = none ∨ v.ownBlock ≠ v'.ownBlock := by
  rcases hv : v.ownBlock with _ | g
  · exact .inl rfl
  · refine .inr (fun e1 => ?_)
    obtain ⟨a, b, c, h1, h2⟩ := ownK_notT h hne g hv
    rcases h'.2 with ⟨rfl, _⟩ | ⟨g', cap, cur, rfl, _, hh, _⟩
    · simp [Value.ownBlock] at e1
    · have e2 : g = g' := by simpa [Value.ownBlock] using e1
      subst e2
      rw [h1] at hh
      injection hh with hh
      injection hh with _ h3
      exact h2 h3
/-- Where the pieces lie. -/
theorem own_pieces {w : World} {base : Nat} {v : Value} {qs : List (Nat × Int)} (h : w.ownsRow base 31 2 v qs.length (pcells qs)) (h0 : 0 < qs.length) : ∃ g cap, v = .slice (some ⟨g, 0, none⟩) qs.length cap ∧ base ≤ g ∧ g < w.heap.size ∧
    ∀ j (hj : j < qs.length), w.cell? ⟨g, j * 2, none⟩ = some (.int .u32 (qs[j].1 : Int)) ∧ w.cell? ⟨g, j * 2 + 1, none⟩ = some (.int .i64 qs[j].2) := by
  rcases h.2 with ⟨_, h1⟩ | ⟨g, cap, cur, hv, hb, hh, h3⟩
  · omega
  · refine ⟨g, cap, hv, hb, ?_, fun j hj => ?_⟩
    · rcases Nat.lt_or_ge g w.heap.size with h1 | h1
      · exact h1
      · rw [Array.getElem?_eq_none h1] at hh; cases hh
    · obtain ⟨h4, h5⟩ := pcells_get qs j hj
      have c0 := h.cells (g := g) (by rw [hv]; rfl) (j * 2) _ h4
      have c1 := h.cells (g := g) (by rw [hv]; rfl) (j * 2 + 1) _ h5
      rw [add_zero_off] at c0 c1
      exact ⟨c0, c1⟩
theorem own_len {w : World} {base : Nat} {v : Value} {qs : List (Nat × Int)} (h : w.ownsRow base 31 2 v qs.length (pcells qs)) : ∃ A cap, v = .slice A qs.length cap := by
  rcases h.2 with ⟨hv, h1⟩ | ⟨g, cap, cur, hv, _⟩
  · exact ⟨none, 0, by rw [hv, h1]⟩
  · exact ⟨_, _, hv⟩
theorem ownK_below {w w' : World} {base size : Nat} {e : TypeId} {v : Value} {n : Nat} {xs : List Value} (h : w.ownsRow base e size v n xs) (hb : Below w.heap.size w w') : w'.ownsRow base e size v n xs :=
  h.kept (row := none) (grown_below hb none) (by cases v.ownBlock <;> simp)
/-- 'append(s, x...)', both the call's own: nil, or not. -/
theorem wpList_append_two {P : Program} {w : World} {ops : Array Oper} {rest : List Oper} {o : Oper} {a : Act} {Q : Exit → Act → World → Prop} (hgd : o.guard = none) (s x : Operand) (t : TypeId)
    (ho : o.op = .call { callee := .builtin .append, args := #[s, x], argTypes := #[t, t] })
    (base : Nat) (e : TypeId) (i : TypeInfo) (z : Value) (size bytes : Nat) (ht : P.underlying t = some (.slice e)) (hi : P.info? e = some i) (hz : i.zero = some z)
    (hsize : i.size = size) (hby : i.bytes = bytes) (hzs : z.cells.size = size) (hsz : 0 < size)
    (v : Value) (n : Nat) (xs : List Value) (hs : a.eval s = v) (hown : w.ownsRow base e size v n xs)
    (u : Value) (m : Nat) (news : List Value) (hx : a.eval x = u) (base' : Nat) (hnew : w.ownsRow base' e size u m news) (h1 : ∀ u ∈ news, u.oneCell' = true)
    (h63 : n + m ≤ maxLen) (hbytes : (n + m) * bytes ≤ 140737488355328) (hbase : base ≤ w.heap.size)
    (h : ∀ v' w', w'.ownsRow base e size v' (n + m) (xs ++ news) → w.grownBy w' v.ownBlock → wpList P ops Q rest (a.put o.dst v') w') : wpList P ops Q (o :: rest) a w := by
  rcases hnew.2 with ⟨hu, hm⟩ | ⟨g, cap, cur, hu, _⟩
  · have hnil : news = [] := List.eq_nil_of_length_eq_zero (by rw [hnew.1, hm, Nat.zero_mul])
    refine wpList_append_own_none hgd s x t ho base e i size ht hi v n xs hs hown (hx.trans hu) (h v w ?_ (grown_refl _ _))
    rw [hm, hnil, List.append_nil]
    exact hown
  · exact wpList_append_own (P := P) w hgd s x t ho base e i z size bytes ht hi hz hsize hby hzs hsz v n xs hs hown ⟨g, 0, none⟩ m cap news (hx.trans hu) hnew.1 (hnew.cells (by rw [hu]; rfl)) h1 h63 hbytes hbase (fun v' w' a b _ => h v' w' a b)
/-- Open of what was sealed. -/
theorem open_seal (g cap N n : Nat) (w : World) (hn : n ≤ 10000000) (hN : N < 2 ^ n) (hrd : Reads w (some ⟨g, 0, none⟩) (u8s (Bm.bytesOf (N + 2 ^ n) (n / 8 + 1)))) (hg : g < w.heap.size) :
    Calls Try.prog 10 #[.slice (some ⟨g, 0, none⟩) (n / 8 + 1) cap] w fun e w' => ∃ b, e = .returned (.tuple #[.pointer (some ⟨b, 0, none⟩), .bool true]) ∧
      TS w' w.heap.size b (Bm.bytesOf (N + 2 ^ n) (n / 8 + 1)) n ∧ Below w.heap.size w w' := by
  have hl := Bm.bytesOf_length (N + 2 ^ n) (n / 8 + 1)
  have hbs := Bm.bytesOf_lt (N + 2 ^ n) (n / 8 + 1)
  have hval := Bm.valB_seal N n hN
  have hx0 : (Bm.bytesOf (N + 2 ^ n) (n / 8 + 1))[n / 8]'(by rw [hl]; omega) ≠ 0 := by
    rw [Bm.bytesOf_get]
    have h1 : 0 < (N + 2 ^ n) / 256 ^ (n / 8) := by
      refine Nat.div_pos ?_ (Nat.pow_pos (by omega))
      rw [Bm.p256]
      have := Nat.pow_le_pow_right (n := 2) (by omega) (show 8 * (n / 8) ≤ n by omega)
      omega
    have h2 : (N + 2 ^ n) / 256 ^ (n / 8) < 256 := by
      rw [Nat.div_lt_iff_lt_mul (Nat.pow_pos (by omega)), Nat.mul_comm, ← Nat.pow_succ]
      exact Bm.sum_lt_bytes N n hN
    rw [Nat.mod_eq_of_lt h2]
    omega
  have hx := hbs _ (List.getElem_mem (show n / 8 < (Bm.bytesOf (N + 2 ^ n) (n / 8 + 1)).length by rw [hl]; omega))
  generalize Bm.bytesOf (N + 2 ^ n) (n / 8 + 1) = bs at hl hbs hval hx0 hx hrd ⊢
  have hsp : bs = bs.take (n / 8) ++ [bs[n / 8]'(by omega)] := by
    have h1 := List.take_succ_eq_append_getElem (l := bs) (i := n / 8) (by omega)
    rw [List.take_of_length_le (by omega)] at h1
    exact h1
  obtain ⟨h1, h8, htop⟩ := Bm.top_last (bs.take (n / 8)) (bs[n / 8]'(by omega)) (fun x hx => hbs x (List.mem_of_mem_take hx)) hx hx0
  rw [← hsp, show (bs.take (n / 8)).length = n / 8 by simp; omega, hval] at htop
  have he := htop.uniq (Bm.top_sum N n hN)
  have h2 := open_some g 0 (n / 8) cap bs _ w (by omega) hx hx0 hl rfl hrd hg
  rw [he] at h2
  exact h2
/-- The reference's Seal of bits that the call owns. -/
theorem rseal_own {w : World} {base N n c : Nat} {A : Option Addr} (hn : n ≤ 100000) (hN : N < 2 ^ n) (h : w.ownsRow base 3 1 (.slice A n c) n (i64s (Bm.bitsOf N n))) :
    Calls Try.prog 11 #[.slice A n c] w fun e w' => ∃ u, e = .returned u ∧ w'.ownsRow w.heap.size 5 1 u (n / 8 + 1) (u8s (Bm.bytesOf (N + 2 ^ n) (n / 8 + 1))) ∧ Below w.heap.size w w' := by
  rcases h.2 with ⟨hv, h0⟩ | ⟨g, cap, cur, hv, _⟩
  · injection hv with e1 e2 e3
    subst h0 e1 e3
    obtain rfl : N = 0 := by omega
    exact rseal_nil w
  · obtain ⟨A', c', e, hrd, hA⟩ := own_reads h
    injection e with e1 e2 e3
    subst e1
    injection hv with e1 e2 e3
    subst e1
    exact rseal_some g 0 n c N w hn hN hrd (hA _ rfl).2.1
end Go.Proofs.Ytllgbnolngenhaa
