/-
  slices.Chunk over parcels, two at a time, by its walk: the twos, the first ones first, for every loop body that keeps what lay below a world's size and the call's own two boxes; a region of a round's that draws its order, walked as outside of a round. Conditions: as each theorem's premises say.
  The program's layer 9 (huff), by its walk: pairs. Conditions: as each theorem's premises say.
  The program's layer 9 (huff): all its calls, by their walks. Conditions: as each theorem's premises say.
  The program's layer 9 (huff), Lengths and Cost, as a law of layer 10 asks for them. Conditions: as each theorem's premises say.
-/
import Derived.Test.YtgcfdjgfnagmjaaGap
import Derived.Test.YtgcfdjgfnagmjaaGam
import Derived.Test.YtgcfdjgfnagmjaaGag
import Derived.Test.YtgcfdjgfnagmjaaGah
import Derived.Deep.RegionHeld3
import Derived.Deep.AppendLies
namespace Go.Proofs.Ytgcfdjgfnagmjaa
open Go.RowKit Go.Shelf
attribute [local go_sem] Oper.semAt_some

theorem rows_round {n l : Nat} {P : Program} {row : String} {args : Array Value} {w : World} {R : Value → World → Prop} (h : Rows P row args w R) : RowsIn (Fence.wide.inRound l) n P row args w R := fun c cs _ => by
  obtain ⟨v, w', hR, hs⟩ := h c cs
  exact ⟨v, w', hR, stepsIn_wide.2 hs⟩
/-- A list of operations without a defer goes in a round as it goes outside. -/
theorem ops_round {n l : Nat} {P : Program} {ops : Array Oper} {Q : Exit → Act → World → Prop} (hnd : ∀ (i : Nat) (o : Oper), ops[i]? = some o → ∀ c, o.op ≠ .defer c) (hQ : ¬ LetsOut Q) :
    ∀ (L : List Nat) (a : Act) (w : World), wpOps P ops Q L a w → wpOpsIn (Fence.wide.inRound l) n P ops Q L a w := by
  intro L
  induction L with
  | nil => exact fun a w h => h
  | cons i rest ih =>
    intro a w h
    simp only [wpOps] at h
    simp only [wpOpsIn]
    cases ho : ops[i]? with
    | none => rw [ho] at h; exact ih a w h
    | some o =>
      rw [ho] at h
      dsimp only at h ⊢
      by_cases hw : Region.wanted o (yielded ops a.tmps) = true
      · rw [if_pos hw] at h ⊢
        rcases h with h | ⟨_, h⟩
        · refine ⟨fun _ _ => trivial, ?_⟩
          show o.uponIn _ n P a _ Q ((o.semAt (some l) a.eval).run P w)
          rw [Oper.semAt_some l _ _ (hnd i o ho)]
          unfold Oper.wp at h
          generalize (execOp a.eval o).run P w = r at *
          cases r with
          | ok x w' =>
            cases x with
            | value v => exact ih _ _ h
            | skip => exact ih _ _ h
            | defer d => exact ih _ _ h
            | enter f args =>
              refine ⟨fun hd => (by cases hd), ?_⟩
              refine CallsIn.mono (CallsIn.inRound l (callsIn_wide.2 h)) fun e w'' he => ?_
              cases e with
              | returned v => exact ih _ _ he
              | panicked c => exact he
              | outgrown => exact he
            | row row args => exact ⟨fun hd => (by cases hd), RowsIn.mono (rows_round h) fun v w'' he => ih _ _ he⟩
            | _ => exact h.elim
          | halt x w' =>
            cases x with
            | panic v => exact h
            | _ => exact h.elim
        · exact absurd h hQ
      · rw [if_neg hw] at h ⊢
        exact ⟨fun _ _ => trivial, ih _ _ h⟩
/-- A region that draws its order, in a round: by what may be said of it outside. -/
theorem region_round {n l id : Nat} {P : Program} {ops : Array Oper} {Q : Exit → Act → World → Prop} {S : World → Prop} {a : Act} {w : World} (hm : P.follows .mixedOrders = true) (hnd : ops.all (fun o => match o.op with | .defer _ => false | _ => true) = true) (hQ : ¬ LetsOut Q) (hS : S w.drew)
    (h : S w.drew → wpAnyH P .any ops Q S ops.size (Array.replicate ops.size false) a w.drew) : (Code.region id ops true).wpIn (Fence.wide.inRound l) n P Q a w :=
  wpIn_region_draw fun t => by
    simp only [Region.schedule, hm, Bool.true_or, if_true]
    refine ops_round (fun i o ho c hc => ?_) hQ _ _ _ (wpAny_sound ops.size t _ a _ (wpAny_of_held _ _ _ _ (h hS)))
    obtain ⟨hi, rfl⟩ := Array.getElem?_eq_some_iff.1 ho
    have h1 := Array.all_eq_true.1 hnd i hi
    rw [hc] at h1
    cases h1

/-- What a round that goes on keeps: what lay below n₀, and two boxes. -/
def KeepC (n₀ Bs Bn : Nat) (A B : World) : Prop := KeepB n₀ Bs A B ∧ B.heap[Bn]? = A.heap[Bn]?
theorem KeepC.t {n₀ Bs Bn : Nat} {A B C : World} (h : KeepC n₀ Bs Bn A B) (k : KeepC n₀ Bs Bn B C) : KeepC n₀ Bs Bn A C := ⟨h.1.t k.1, k.2.trans h.2⟩
theorem KeepC.b {n₀ Bs Bn : Nat} {w : World} (hn : n₀ ≤ w.heap.size) (hB : Bs < w.heap.size) (hC : Bn < w.heap.size) (W : World) (l : Nat) (o o' : Obj) (hl : w.heap.size ≤ l) (h : W.heap[l]? = some o) (h1 : o.isCells = false) (h2 : o.isWalk = false) : KeepC n₀ Bs Bn W (W.putObj l o') :=
  ⟨KeepB.b hn hB W l o o' hl h h1 h2, World.putObj_heap_other (by omega)⟩
/-- A round's value: which two. -/
abbrev Chk (m : Nat) := { k : Nat // 2 * k < m }
def chkLen (m k : Nat) : Nat := if 2 * k + 1 < m then 2 else 1
def Chk.enc (g m : Nat) (x : Chk m) : Array Value := #[.slice (some ⟨g, 2 * x.1 * 2, none⟩) (chkLen m x.1) (chkLen m x.1)]

set_option maxRecDepth 100000 in
set_option maxHeartbeats 2000000 in
theorem chunk1_in (n : Nat) (hn : 1 ≤ n) (l Bs Bn n₀ g m c : Nat) (hmc : m ≤ c) (hm : m ≤ 1000) (J Jx : List (Chk m) → World → Prop)
    (hY : ∀ pre x W, J pre W → pre.length < (m + 1) / 2 → YieldAt Fence.wide (n - 1) Try.prog l (Chk.enc g m x) W fun e W' =>
      (e = .returned (.bool true) ∧ J (pre ++ [x]) W' ∧ KeepC n₀ Bs Bn W W') ∨ (e = .returned (.bool false) ∧ Jx (pre ++ [x]) W'))
    (hJd : ∀ pre W, J pre W → J pre W.drew)
    (W : World) (hBs : W.cell? ⟨Bs, 0, none⟩ = some (.slice (some ⟨g, 0, none⟩) m c)) (hBn : W.cell? ⟨Bn, 0, none⟩ = some (.int .i64 2)) (h0 : J [] W) :
    CallsIn Fence.wide n Try.prog 87 #[.func (.yield l) #[] #[], .pointer (some ⟨Bs, 0, none⟩), .pointer (some ⟨Bn, 0, none⟩)] W fun e W' => (∃ v, e = .returned v) ∧
      ((∃ ys, ys.map (·.1) = List.range ((m + 1) / 2) ∧ J ys W') ∨ (∃ pre : List (Chk m), True ∧ Jx pre W')) := by
  refine callsIn_of_wp Try.func87 rfl trivial ?_ rfl
  simp only [Try.ntmps87, List.size_toArray, List.length_cons, List.length_nil, Nat.reduceAdd, Nat.reduceSub, Array.replicate_succ, Array.replicate_zero, List.push_toArray, List.append_toArray, List.nil_append, List.cons_append]
  gi_wp2
  gi_loopw [4] (fun i wr => ∃ (k q : Nat) (pre : List (Chk m)), 2 * k ≤ m + 1 ∧ i = .int .i64 (q : Int) ∧ Hid (q = 2 * k) ∧ Hid (pre.map (·.1) = List.range k) ∧ J pre wr ∧ Hid (KeepC n₀ Bs Bn W wr))
    (fun i _ => (m + 2 - intOf i).toNat)
  case atStart => exact ⟨0, 0, [], by omega, rfl, Lib.hid rfl, Lib.hid rfl, h0, Lib.hid ⟨⟨Below.refl _ _, rfl⟩, rfl⟩⟩
  case round =>
    obtain ⟨k, q, pre, hk, rfl, hq, hp, hJs, hkb⟩ := hrel
    have hpl : pre.length = k := by
      have := congrArg List.length hp.out
      rw [List.length_map, List.length_range] at this
      exact this
    have cS : wr.cell? ⟨Bs, 0, none⟩ = some (.slice (some ⟨g, 0, none⟩) m c) := (World.cell?_of_block (a := ⟨Bs, 0, none⟩) hkb.out.1.2).trans hBs
    have cN : wr.cell? ⟨Bn, 0, none⟩ = some (.int .i64 2) := (World.cell?_of_block (a := ⟨Bn, 0, none⟩) hkb.out.2).trans hBn
    by_cases hlt : q < m
    · have hkm : 2 * k < m := by have := hq.out; omega
      obtain ⟨fn, tmps, assign, body, hy, hR⟩ := hY pre ⟨k, hkm⟩ wr.drew (hJd _ _ hJs) (by omega)
      have hp2 : (pre ++ [(⟨k, hkm⟩ : Chk m)]).map (fun x : Chk m => x.1) = List.range (k + 1) := by rw [List.map_append, hp.out, List.range_succ]; rfl
      have Hp2 := Lib.hid hp2
      unfold Chk.enc at hy
      dsimp only at hy
      rw [← hq.out] at hy
      by_cases h2 : q + 1 < m
      · have e2 : chkLen m k = 2 := by unfold chkLen; rw [if_pos (by have := hq.out; omega)]
        rw [e2] at hy
        clear hp2 hp hBs hBn
        gi_wp2
        have q1 : q ≤ m := by omega
        have q2 : ¬ c = q := by omega
        have q3 : min 2 ((m - q : Nat) : Int) = 2 := by omega
        refine wpIn_wide.2 ?_
        go_region_held3 (fun W' => W'.cell? ⟨Bs, 0, none⟩ = some (.slice (some ⟨g, 0, none⟩) m c) ∧ W'.cell? ⟨Bn, 0, none⟩ = some (.int .i64 2)) (first | exact ⟨cS, cN⟩) (fail)
        clear cS cN
        rename_i hHeld
        obtain ⟨cS, cN⟩ := hHeld
        gi_wp2
        refine hR.mono ?_
        rintro e W3 (⟨rfl, hJ3, hk3⟩ | ⟨rfl, hJx3⟩)
        · have d1 : W3.cell? ⟨Bs, 0, none⟩ = some (.slice (some ⟨g, 0, none⟩) m c) := (World.cell?_of_block (a := ⟨Bs, 0, none⟩) hk3.1.2).trans cS
          have d2 : W3.cell? ⟨Bn, 0, none⟩ = some (.int .i64 2) := (World.cell?_of_block (a := ⟨Bn, 0, none⟩) hk3.2).trans cN
          have Hk3 : Hid (KeepC n₀ Bs Bn W W3) := Lib.hid (hkb.out.t (KeepC.t ⟨⟨(Below.refl _ _).drew, rfl⟩, rfl⟩ hk3))
          have Hq1 := Lib.hid (show q + 2 = 2 * (k + 1) by have := hq.out; omega)
          clear cS cN hR hy hk3 hkb hq
          gi_wp2
          go_roundw
          case rel => exact ⟨k + 1, q + 2, _, by omega, by go_num, Hq1, Hp2, hJ3, Hk3⟩
          case measure => simp [intOf]; omega
        · clear cS cN hy
          gi_wp2
          refine bodyPost_ret (results_none rfl _ _ _) rfl ?_
          exact ⟨⟨_, rfl⟩, .inr ⟨_, trivial, hJx3⟩⟩
      · have e2 : chkLen m k = 1 := by unfold chkLen; rw [if_neg (by have := hq.out; omega)]
        rw [e2] at hy
        clear hp2 hp hBs hBn
        gi_wp2
        have q1 : q ≤ m := by omega
        have q2 : ¬ c = q := by omega
        have q3 : min 2 ((m - q : Nat) : Int) = 1 := by omega
        refine wpIn_wide.2 ?_
        go_region_held3 (fun W' => W'.cell? ⟨Bs, 0, none⟩ = some (.slice (some ⟨g, 0, none⟩) m c) ∧ W'.cell? ⟨Bn, 0, none⟩ = some (.int .i64 2)) (first | exact ⟨cS, cN⟩) (fail)
        clear cS cN
        rename_i hHeld
        obtain ⟨cS, cN⟩ := hHeld
        gi_wp2
        refine hR.mono ?_
        rintro e W3 (⟨rfl, hJ3, hk3⟩ | ⟨rfl, hJx3⟩)
        · have d1 : W3.cell? ⟨Bs, 0, none⟩ = some (.slice (some ⟨g, 0, none⟩) m c) := (World.cell?_of_block (a := ⟨Bs, 0, none⟩) hk3.1.2).trans cS
          have d2 : W3.cell? ⟨Bn, 0, none⟩ = some (.int .i64 2) := (World.cell?_of_block (a := ⟨Bn, 0, none⟩) hk3.2).trans cN
          have Hk3 : Hid (KeepC n₀ Bs Bn W W3) := Lib.hid (hkb.out.t (KeepC.t ⟨⟨(Below.refl _ _).drew, rfl⟩, rfl⟩ hk3))
          have Hq1 := Lib.hid (show q + 2 = 2 * (k + 1) by have := hq.out; omega)
          clear cS cN hR hy hk3 hkb hq
          gi_wp2
          go_roundw
          case rel => exact ⟨k + 1, q + 2, _, by omega, by go_num, Hq1, Hp2, hJ3, Hk3⟩
          case measure => simp [intOf]; omega
        · clear cS cN hy
          gi_wp2
          refine bodyPost_ret (results_none rfl _ _ _) rfl ?_
          exact ⟨⟨_, rfl⟩, .inr ⟨_, trivial, hJx3⟩⟩
    · have hkm : k = (m + 1) / 2 := by have := hq.out; omega
      have hp2 := hp.out
      rw [hkm] at hp2
      have Hp2 := Lib.hid hp2
      clear hp2 hp hBs hBn hkb
      gi_wp2
      go_end0
      exact ⟨⟨_, rfl⟩, .inl ⟨pre, Hp2.out, hJs⟩⟩

set_option maxHeartbeats 1000000 in
set_option maxRecDepth 100000 in
theorem chunk_in (n : Nat) (A : Option Addr) (m c : Nat) (w : World) :
    CallsIn Fence.wide n Try.prog 81 #[.slice A m c, .int .i64 2] w fun e w' => e = .returned (.func (.func 87) #[] #[.pointer (some ⟨w.heap.size, 0, none⟩), .pointer (some ⟨w.heap.size + 1, 0, none⟩)]) ∧ w' = (w.alloc (.cells #[.slice A m c] 106)).alloc (.cells #[.int .i64 2] 3) := by
  refine callsIn_of_wp Try.func81 rfl trivial ?_ rfl
  simp only [Try.ntmps81, List.size_toArray, List.length_cons, List.length_nil, Nat.reduceAdd, Nat.reduceSub, Array.replicate_succ, Array.replicate_zero, List.push_toArray, List.append_toArray, List.nil_append, List.cons_append]
  gi_wp2
  go_ret
  exact ⟨rfl, rfl⟩

/-- The twos come, the first ones first. -/
theorem chunk_stops (n : Nat) (hn : 1 ≤ n) (n₀ Bs Bn g m c : Nat) (hmc : m ≤ c) (hm : m ≤ 1000) (w : World) (hBs : Bs < w.heap.size) (hBn : Bn < w.heap.size)
    (hc : w.cell? ⟨Bs, 0, none⟩ = some (.slice (some ⟨g, 0, none⟩) m c)) (hd : w.cell? ⟨Bn, 0, none⟩ = some (.int .i64 2)) :
    SeqStopsK Fence.wide n Try.prog 87 #[.pointer (some ⟨Bs, 0, none⟩), .pointer (some ⟨Bn, 0, none⟩)] (Chk.enc g m) (KeepC n₀ Bs Bn) (fun ys => ys.map (·.1) = List.range ((m + 1) / 2)) (fun _ => True) ((m + 1) / 2) w := fun l J Jx W hW hJ _ hY h0 =>
  chunk1_in n hn l Bs Bn n₀ g m c hmc hm J Jx hY (fun pre W h => hJ pre W _ none h (grown_drew (grown_refl W none)) (fun r e => by cases e)) W ((hW.cell (p := ⟨Bs, 0, none⟩) hBs).trans hc) ((hW.cell (p := ⟨Bn, 0, none⟩) hBn).trans hd) h0
end Go.Proofs.Ytgcfdjgfnagmjaa

namespace Go.Proofs.Ytgcfdjgfnagmjaa
open Go.RowKit Go.Shelf
attribute [local go_sem] Oper.semAt_some

theorem own_none9 {w w' : World} {base n size : Nat} {e : TypeId} {v : Value} {xs : List Value} (h : w.ownsRow base e size v n xs) (hg : w.grownBy w' none) : w'.ownsRow base e size v n xs :=
  h.kept hg (by
    rcases h.2 with ⟨rfl, _⟩ | ⟨g, cap, cur, rfl, _⟩
    · exact .inl rfl
    · exact .inr (by simp [Value.ownBlock]))
theorem irow_of_own {w : World} {base n : Nat} {v : Value} {l : List Nat} (h : w.ownsRow base 3 1 v n (i64s l)) (hn : 0 < n) : ∃ g cap post, v = .slice (some ⟨g, 0, none⟩) n cap ∧ base ≤ g ∧ Row w g 3 (i64s l ++ post) := by
  rcases h.2 with ⟨_, h0⟩ | ⟨g, cap, cur, rfl, hb, hg, hnc, hcm, hcs, ht⟩
  · omega
  · refine ⟨g, cap, cur.toList.drop (n * 1), rfl, hb, ?_⟩
    unfold Row
    rw [← ht, List.take_append_drop, Array.toArray_toList]
    exact hg
theorem SymsM.far {w w' : World} {T : List Pcl} {row : Option Nat} (h : SymsM w T) (hg : w.grownBy w' row) (hr : ∀ b, row = some b → ∃ o : Obj, w.heap[b]? = some o ∧ ∀ cs, o ≠ .cells cs 3 (0, 0)) : SymsM w' T := fun t ht => by
  obtain ⟨post, hrow⟩ := h t ht
  refine ⟨post, hrow.keep (hg.block _ hrow.lt (fun e => ?_))⟩
  obtain ⟨o, ho, hn⟩ := hr _ e.symm
  unfold Row at hrow
  rw [ho] at hrow
  injection hrow with hrow
  exact hn _ hrow
theorem own_kind {w : World} {base n size : Nat} {e : TypeId} {v : Value} {xs : List Value} (h : w.ownsRow base e size v n xs) (he : e ≠ 3) : ∀ b, v.ownBlock = some b → ∃ o : Obj, w.heap[b]? = some o ∧ ∀ cs, o ≠ .cells cs 3 (0, 0) := fun b hb => by
  rcases h.2 with ⟨rfl, _⟩ | ⟨g, cap, cur, rfl, _, hg, _⟩
  · cases hb
  · simp only [Value.ownBlock, Option.some.injEq] at hb
    subst hb
    exact ⟨_, hg, fun cs e' => by injection e' with _ e2; exact he e2⟩
/-- What has been made of these twos. -/
inductive Col (T : List Pcl) : List Nat → List Pcl → Prop
  | nil : Col T [] []
  | take {ks : List Nat} {P : List Pcl} {k : Nat} {u : Pcl} : Col T ks P → 2 * k + 1 < T.length → u.1 = Bm.wt T (2 * k) + Bm.wt T (2 * k + 1) → u.2.2 = (T[2 * k]?.getD noPcl).2.2 ++ (T[2 * k + 1]?.getD noPcl).2.2 → Col T (ks ++ [k]) (P ++ [u])
  | skip {ks : List Nat} {P : List Pcl} {k : Nat} : Col T ks P → ¬ 2 * k + 1 < T.length → Col T (ks ++ [k]) P
theorem Col.len {T : List Pcl} {ks : List Nat} {P : List Pcl} (h : Col T ks P) : P.length ≤ ks.length := by
  induction h with
  | nil => simp
  | take _ _ _ _ ih => simp only [List.length_append, List.length_cons, List.length_nil]; omega
  | skip _ _ ih => simp only [List.length_append, List.length_cons, List.length_nil]; omega
theorem col_range (T : List Pcl) : ∀ (n : Nat) (P : List Pcl), Col T (List.range n) P → 2 * n ≤ T.length + 1 → P.length = min n (T.length / 2) ∧
    ∀ x, x < P.length → Bm.wt P x = Bm.wt T (2 * x) + Bm.wt T (2 * x + 1) ∧ (P[x]?.getD noPcl).2.2 = (T[2 * x]?.getD noPcl).2.2 ++ (T[2 * x + 1]?.getD noPcl).2.2
  | 0, P, h, _ => by
    rw [List.range_zero] at h
    generalize hks : ([] : List Nat) = ks at h
    cases h with
    | nil => exact ⟨by simp, fun x hx => by simp at hx⟩
    | take => simp at hks
    | skip => simp at hks
  | n + 1, P, h, hn => by
    rw [List.range_succ] at h
    generalize hks : List.range n ++ [n] = ks at h
    cases h with
    | nil => simp at hks
    | @take ks P k u h1 h2 h3 h4 =>
      obtain ⟨rfl, e2⟩ := List.append_inj' hks rfl
      injection e2 with e2
      subst e2
      obtain ⟨r1, r2⟩ := col_range T n _ h1 (by omega)
      refine ⟨by rw [List.length_append, r1, List.length_cons, List.length_nil]; omega, fun x hx => ?_⟩
      have hPn : P.length = n := by omega
      rw [List.length_append, List.length_cons, List.length_nil] at hx
      by_cases hxn : x < P.length
      · obtain ⟨s1, s2⟩ := r2 x hxn
        unfold Bm.wt at s1 ⊢
        rw [List.getElem?_append_left hxn]
        exact ⟨s1, s2⟩
      · obtain rfl : x = n := by omega
        unfold Bm.wt at h3 ⊢
        rw [List.getElem?_append_right (by omega), show x - P.length = 0 by omega]
        exact ⟨h3, h4⟩
    | skip h1 h2 =>
      obtain ⟨rfl, e2⟩ := List.append_inj' hks rfl
      injection e2 with e2
      subst e2
      obtain ⟨r1, r2⟩ := col_range T n _ h1 (by omega)
      exact ⟨by rw [r1]; omega, r2⟩
/-- Between two rounds. -/
def PairsI (T : List Pcl) (m B : Nat) (vs : Value) (w : World) (pre : List (Chk m)) (W : World) : Prop :=
  (∃ v P, Boxed W B 106 v ∧ W.ownsRow B 111 2 v P.length (p2 P) ∧ Col T (pre.map (·.1)) P ∧ SymsM W P) ∧ (Boxed W (B + 1) 106 vs ∧ Boxed W (B + 2) 3 (.int .i64 2)) ∧ Below B w W
theorem pairsI_own (T : List Pcl) (m B : Nat) (vs : Value) (w : World) (hB : B = w.heap.size) : OwnFrom (B + 3) (PairsI T m B vs w) := by
  rintro pre W W' row ⟨⟨v, P, h1, h2, h3, h4⟩, ⟨h5, h6⟩, h7⟩ hg hr
  have hne : ∀ {b : Nat} {t : TypeId} {u : Value}, Boxed W b t u → some b ≠ row := fun hb e => by
    obtain ⟨_, o, ho, hc⟩ := hr _ e.symm
    rw [show W.heap[_]? = _ from hb] at ho
    cases ho
    cases hc
  refine ⟨⟨v, P, h1.kept hg (hne h1), h2.kept hg ?_, h3, h4.far hg fun b e => ?_⟩, ⟨h5.kept hg (hne h5), h6.kept hg (hne h6)⟩, h7.grown hg (by rw [hB]; exact (hB ▸ h7).size) fun r e => by have := (hr r e).1; omega⟩
  · rcases h2.2 with ⟨rfl, _⟩ | ⟨g, cap, cur, rfl, _, hgb, _⟩
    · exact .inl rfl
    · refine .inr fun e' => ?_
      obtain ⟨_, o, ho, hc⟩ := hr g (by simpa [Value.ownBlock] using e'.symm)
      rw [hgb] at ho
      cases ho
      cases hc
  · obtain ⟨_, o, ho, hc⟩ := hr b e
    exact ⟨o, ho, fun cs e' => by rw [e'] at hc; cases hc⟩
/-- Behind the region: what the append and the store have made of it. -/
theorem pairs_end {T : List Pcl} {m B : Nat} {vs : Value} {w : World} {pre : List (Chk m)} {k : Nat} {hk : 2 * k < m} {W W4 wN : World} {v : Value} {P : List Pcl} {u : Pcl} {gN capN : Nat} {o2 : Obj} {news post : List Value}
    (hB : B = w.heap.size) (h1 : Boxed W B 106 v) (h2 : W.ownsRow B 111 2 v P.length (p2 P)) (h3 : Col T (pre.map (·.1)) P) (h4 : SymsM W P) (h5 : Boxed W (B + 1) 106 vs) (h6 : Boxed W (B + 2) 3 (.int .i64 2)) (h7 : Below B w W)
    (hkm : 2 * k + 1 < T.length) (hw : u.1 = Bm.wt T (2 * k) + Bm.wt T (2 * k + 1)) (hs : u.2.2 = (T[2 * k]?.getD noPcl).2.2 ++ (T[2 * k + 1]?.getD noPcl).2.2) (hn : p2 [u] = news)
    (hb4 : Below W.heap.size W W4) (hr4 : Row W4 u.2.1.1 3 (i64s u.2.2 ++ post)) (hown : wN.ownsRow B 111 2 (.slice (some ⟨gN, 0, none⟩) (P.length + 1) capN) (P.length + 1) (p2 P ++ news)) (hgr : (W4.alloc o2).grownBy wN v.ownBlock) :
    (wN.cell? ⟨B, 0, none⟩ = some v ∧ wN.frozen? ⟨B, 0, none⟩ = false) ∧ KeepsFrom (B + 3) W (wN.setCell ⟨B, 0, none⟩ (.slice (some ⟨gN, 0, none⟩) (P.length + 1) capN)) ∧ KeepC B (B + 1) (B + 2) W (wN.setCell ⟨B, 0, none⟩ (.slice (some ⟨gN, 0, none⟩) (P.length + 1) capN)) ∧
      PairsI T m B vs w (pre ++ [⟨k, hk⟩]) (wN.setCell ⟨B, 0, none⟩ (.slice (some ⟨gN, 0, none⟩) (P.length + 1) capN)) := by
  have hg4 := grown_below hb4 none
  have hBW : B ≤ W.heap.size := by rw [hB]; exact (hB ▸ h7).size
  have hown4 := own_none9 h2 hg4
  have e1 := h1.kept hg4 (by simp)
  have e5 := h5.kept hg4 (by simp)
  have e6 := h6.kept hg4 (by simp)
  obtain ⟨k1, k2, k3, k4, k5⟩ := e1.appended (by decide) hown4 (Nat.le_trans hBW hb4.size) (Nat.le_refl _) hown hgr
  have hgs := grownBy_setCell' wN B (.slice (some ⟨gN, 0, none⟩) (P.length + 1) capN)
  have f5 := ((e5.alloc o2).kept hgr (e5.not_row (by decide) hown4)).kept hgs (by simp)
  have f6 := ((e6.alloc o2).kept hgr (e6.not_row (by decide) hown4)).kept hgs (by simp)
  have hbW : Below B W (wN.setCell ⟨B, 0, none⟩ (.slice (some ⟨gN, 0, none⟩) (P.length + 1) capN)) := (hb4.mono hBW).trans k5
  have hga : W.grownBy (W4.alloc o2) none := grown_alloc hg4 o2
  have hbox : ∀ b, (some B : Option Nat) = some b → ∃ o : Obj, wN.heap[b]? = some o ∧ ∀ cs, o ≠ .cells cs 3 (0, 0) := fun b e => by
    injection e with e
    subst e
    exact ⟨_, k1, fun cs e' => by injection e' with _ e2; exact absurd e2 (by decide)⟩
  refine ⟨⟨k1.cell, k1.frozen⟩, (KeepsFrom.of_grownBy hg4 (by simp)).trans (k4.from _), ⟨⟨hbW, f5.trans h5.symm⟩, f6.trans h6.symm⟩, ⟨_, P ++ [u], k2, ?_, ?_, fun t ht => ?_⟩, ⟨f5, f6⟩, h7.trans hbW⟩
  · rw [List.length_append, p2_append, hn]
    exact k3
  · rw [List.map_append]
    exact .take h3 hkm hw hs
  · have hkd := own_kind (own_none9 hown4 (grown_alloc (grown_refl W4 none) o2)) (by decide)
    rcases List.mem_append.1 ht with ht | ht
    · exact (((h4.far hga (fun b e => by cases e)).far hgr hkd).far hgs hbox) t ht
    · simp only [List.mem_singleton] at ht
      subst ht
      have hs1 : SymsM W4 [t] := fun t' ht' => by
        simp only [List.mem_singleton] at ht'
        subst ht'
        exact ⟨post, hr4⟩
      exact (((hs1.far (grown_alloc (grown_refl W4 none) o2) (fun b e => by cases e)).far hgr hkd).far hgs hbox) t (List.mem_singleton.2 rfl)

set_option maxRecDepth 100000 in
set_option maxHeartbeats 2000000 in
theorem pairs_is : PairsC := by
  intro w g cap T post h2 hT hTc hcm hsz hrow hsyT
  obtain ⟨i0, hi, hz0, hz1, hz2⟩ := info_parts info_pcl
  obtain ⟨m, hm⟩ : ∃ m, m = T.length := ⟨_, rfl⟩
  rw [← hm] at h2 hT hTc ⊢
  have Hm := Lib.hid hm
  have Hsz := Lib.hid hsz
  have Hrow := Lib.hid hrow
  have HsyT := Lib.hid hsyT
  clear hm hsz hrow hsyT
  refine (callsIn_wide (n := 4)).1 ?_
  refine callsIn_of_wp_marks Try.func69 rfl trivial ?_ rfl
  simp only [Try.ntmps69, List.size_toArray, List.length_cons, List.length_nil, Nat.reduceAdd, Nat.reduceSub, Array.replicate_succ, Array.replicate_zero, List.push_toArray, List.append_toArray, List.nil_append, List.cons_append]
  gi_wp2_with fail
  refine ⟨trivial, (chunk_in 3 (some ⟨g, 0, none⟩) m cap _).mono ?_⟩
  rintro e w' ⟨rfl, hW3⟩
  obtain ⟨B, hB⟩ : ∃ B, B = w.heap.size := ⟨_, rfl⟩
  have hs3 : w'.heap.size = B + 3 := by rw [hW3, hB]; simp
  have hg3 : w.grownBy w' none := by rw [hW3]; exact grown_alloc (grown_alloc (grown_alloc (grown_refl _ _) _) _) _
  have d1 : Boxed w' B 106 (.slice none 0 0) := by rw [hW3, hB]; exact ((Boxed.new w _ _).alloc _).alloc _
  have d2 : Boxed w' (B + 1) 106 (.slice (some ⟨g, 0, none⟩) m cap) := by
    have h := Boxed.new (w.alloc (.cells #[.slice none 0 0] 106)) 106 (.slice (some ⟨g, 0, none⟩) m cap)
    rw [World.size_alloc] at h
    rw [hW3, hB]
    exact h.alloc _
  have d3 : Boxed w' (B + 2) 3 (.int .i64 2) := by
    have h := Boxed.new ((w.alloc (.cells #[.slice none 0 0] 106)).alloc (.cells #[.slice (some ⟨g, 0, none⟩) m cap] 106)) 3 (.int .i64 2)
    rw [World.size_alloc, World.size_alloc] at h
    rw [hW3, hB]
    exact h
  have hb3 : Below B w w' := by rw [hB]; exact below_of_grown hg3
  have D1 := Lib.hid d1
  have D2 := Lib.hid d2
  have D3 := Lib.hid d3
  have Hb3 := Lib.hid hb3
  have hs1 : (w.alloc (.cells #[.slice none 0 0] 106)).heap.size = B + 1 := by rw [World.size_alloc, hB]
  rw [hs1, ← hB]
  have HB := Lib.hid hB
  clear hW3 hg3 d1 d2 d3 hb3 hs1 hB
  gi_wp2_with fail
  refine wpIn_rangeFunc_ownG (N := (m + 1) / 2) (w0 := w') rfl (by omega) (gf := 87) (lb := #[.pointer (some ⟨B + 1, 0, none⟩), .pointer (some ⟨B + 1 + 1, 0, none⟩)]) rfl trivial (enters_of Try.func87 (by kernel_rfl) rfl)
    (chunk_stops 3 (by omega) B (B + 1) (B + 2) g m cap hTc hT w' (by omega) (by omega) D2.out.cell D3.out.cell) (fun h k => KeepC.t h k) (KeepC.b (by omega) (by omega) (by omega)) (Below.refl _ _) (fun _ => rfl)
    (PairsI T m B (.slice (some ⟨g, 0, none⟩) m cap) w) (fun _ _ _ => False)
    (by rw [hs3]; exact pairsI_own T m B _ w HB.out) (fun _ _ _ _ _ hs _ _ => hs)
    ⟨⟨_, [], D1.out, World.ownsRow_nil _ _ _ _, .nil, fun t ht => by simp at ht⟩, ⟨D2.out, D3.out⟩, Hb3.out⟩
    (fun x => { tmps := #[.slice (some ⟨g, 0, none⟩) m cap, undef, .slice none 0 0, .pointer (some ⟨B, 0, none⟩), .slice (some ⟨g, 2 * x.1 * 2, none⟩) (chkLen m x.1) (chkLen m x.1), .slice (some ⟨g, 0, none⟩) m cap, .func (.func 87) #[] #[.pointer (some ⟨B + 1, 0, none⟩), .pointer (some ⟨B + 1 + 1, 0, none⟩)], .slice (some ⟨g, 2 * x.1 * 2, none⟩) (chkLen m x.1) (chkLen m x.1), undef, undef, undef, undef, undef, undef, undef, undef, undef, undef, undef, undef, undef, undef, undef, undef, undef, undef, undef, undef, undef, undef, undef, undef, undef, undef, undef], defers := [] }) ?assign ?body ?done ?stop
  case assign =>
    intro l x W K hK
    unfold Chk.enc
    gi_wp2
    exact hK
  case body =>
    rintro l pre ⟨k, hk⟩ W ⟨⟨v, P, h1, h2', h3, h4⟩, ⟨h5, h6⟩, h7⟩ hlen
    dsimp only
    rw [hs3]
    have hPl := h3.len
    rw [List.length_map] at hPl
    by_cases hkm : 2 * k + 1 < m
    · have e2 : chkLen m k = 2 := by unfold chkLen; rw [if_pos hkm]
      rw [e2]
      have hr := Hrow.out.below (HB.out ▸ h7)
      obtain ⟨a0, a1⟩ := prow_at hr (List.getElem?_eq_getElem (show 2 * k < T.length by have := Hm.out; omega))
      obtain ⟨b0, b1⟩ := prow_at hr (List.getElem?_eq_getElem (show 2 * k + 1 < T.length by have := Hm.out; omega))
      obtain ⟨u1, hu1⟩ : ∃ u1, u1 = T[2 * k]'(by have := Hm.out; omega) := ⟨_, rfl⟩
      obtain ⟨u2, hu2⟩ : ∃ u2, u2 = T[2 * k + 1]'(by have := Hm.out; omega) := ⟨_, rfl⟩
      rw [← hu1] at a0 a1
      rw [← hu2] at b0 b1
      have hm1 : u1 ∈ T := by rw [hu1]; exact List.getElem_mem _
      have hm2 : u2 ∈ T := by rw [hu2]; exact List.getElem_mem _
      have hg1 : T[2 * k]?.getD noPcl = u1 := by rw [hu1, List.getElem?_eq_getElem (by have := Hm.out; omega), Option.getD_some]
      have hg2 : T[2 * k + 1]?.getD noPcl = u2 := by rw [hu2, List.getElem?_eq_getElem (by have := Hm.out; omega), Option.getD_some]
      have hw1 : Bm.wt T (2 * k) = u1.1 := by unfold Bm.wt; rw [hg1]
      have hw2 : Bm.wt T (2 * k + 1) = u2.1 := by unfold Bm.wt; rw [hg2]
      obtain ⟨z1, y1, x1⟩ := Hsz.out u1 hm1
      obtain ⟨z2, y2, x2⟩ := Hsz.out u2 hm2
      have hsyW := HsyT.out.below (HB.out ▸ h7)
      obtain ⟨post1, r1⟩ := hsyW u1 hm1
      obtain ⟨post2, r2⟩ := hsyW u2 hm2
      have R1 := Lib.hid r1
      have R2 := Lib.hid r2
      obtain ⟨a, ⟨g1, c1⟩, l1⟩ := u1
      obtain ⟨b, ⟨g2, c2⟩, l2⟩ := u2
      dsimp only [pclV] at a0 a1 b0 b1 z1 y1 x1 z2 y2 x2 hw1 hw2 R1 R2
      have hs2 : (a + b, (g1, c1), l1 ++ l2).2.2 = (T[2 * k]?.getD noPcl).2.2 ++ (T[2 * k + 1]?.getD noPcl).2.2 := by rw [hg1, hg2]
      have Hs2 : Hid (l1 ++ l2 = (T[2 * k]?.getD noPcl).2.2 ++ (T[2 * k + 1]?.getD noPcl).2.2) := Lib.hid hs2
      have Hw2 : Hid (a + b = Bm.wt T (2 * k) + Bm.wt T (2 * k + 1)) := Lib.hid (by rw [hw1, hw2])
      rw [show (2 * k + 1) * 2 = 2 * k * 2 + 2 by omega] at b0 b1
      clear hr hu1 hu2 hm1 hm2 hg1 hg2 hw1 hw2 hsyW r1 r2 hs2 e2
      generalize 2 * k * 2 = off at *
      obtain ⟨n1, hn1⟩ : ∃ n1, n1 = l1.length := ⟨_, rfl⟩
      obtain ⟨n2, hn2⟩ : ∃ n2, n2 = l2.length := ⟨_, rfl⟩
      rw [← hn1] at a1 y1 x1
      rw [← hn2] at b1 y2 x2
      have c0 := h1.cell
      obtain ⟨pn, hpn⟩ : ∃ pn, pn = P.length := ⟨_, rfl⟩
      have hpn5 : pn ≤ 500 := by omega
      have H1 := Lib.hid h1
      have H2 := Lib.hid h2'
      have H3 := Lib.hid h3
      have H4 := Lib.hid h4
      have H5 := Lib.hid h5
      have H6 := Lib.hid h6
      have H7 := Lib.hid h7
      have hBW : B ≤ W.heap.size := by have := h1.lt; omega
      have hcon : Calls Try.prog 82 #[.slice (some ⟨W.heap.size, 0, none⟩) 2 2] (W.drew.alloc (.cells #[.slice (some ⟨g1, 0, none⟩) n1 c1, .slice (some ⟨g2, 0, none⟩) n2 c2] 30)) fun e w' => ∃ g4 cap4, e = .returned (.slice (some ⟨g4, 0, none⟩) (n1 + n2) cap4) ∧
          Hid ((∃ post, Row w' g4 3 (i64s (l1 ++ l2) ++ post)) ∧ Below W.heap.size W w') := by
        have hal : Below W.heap.size W (W.drew.alloc (.cells #[.slice (some ⟨g1, 0, none⟩) n1 c1, .slice (some ⟨g2, 0, none⟩) n2 c2] 30)) := (Below.refl _ W).drew.alloc (Nat.le_refl _) _
        refine (uconi_any W.heap.size g1 n1 c1 g2 n2 c2 l1 l2 _ (by omega) hn1.symm hn2.symm (by omega) (by omega) (Row.new W.drew 30 [.slice (some ⟨g1, 0, none⟩) n1 c1, .slice (some ⟨g2, 0, none⟩) n2 c2])
          (fun W' hW' j u hu => ?_) (fun W' hW' j u hu => ?_)).mono ?_
        · rw [add_zero_off, (row_below (row_below R1.out hal) hW').cell j, List.getElem?_append_left (List.getElem?_eq_some_iff.1 hu).1]
          exact hu
        · rw [add_zero_off, (row_below (row_below R2.out hal) hW').cell j, List.getElem?_append_left (List.getElem?_eq_some_iff.1 hu).1]
          exact hu
        · rintro e w' ⟨u, rfl, hown, hb⟩
          obtain ⟨g4, cap4, post, hu, _, hrow⟩ := irow_of_own hown (by omega)
          exact ⟨g4, cap4, by rw [hu], Lib.hid ⟨⟨post, hrow⟩, hal.trans (hb.mono hal.size)⟩⟩
      have Hcon := Lib.hid hcon
      have Hn1 := Lib.hid hn1
      have Hn2 := Lib.hid hn2
      have Hpn := Lib.hid hpn
      clear h1 h2' h3 h4 h5 h6 h7 hcon hn1 hn2 hpn R1 R2
      gi_wp2
      have hgW : g < B := by rw [HB.out]; exact Row.lt Hrow.out
      have HS1 : Hid (∀ W', Below B W W' → W'.cell? ⟨g, off, none⟩ = some (.int .i64 (a : Int)) ∧ W'.cell? ⟨g, off + 1, none⟩ = some (.slice (some ⟨g1, 0, none⟩) n1 c1) ∧ W'.cell? ⟨g, off + 2, none⟩ = some (.int .i64 (b : Int)) ∧ W'.cell? ⟨g, off + 2 + 1, none⟩ = some (.slice (some ⟨g2, 0, none⟩) n2 c2)) := Lib.hid fun W' h =>
        ⟨(h.cell (p := ⟨g, off, none⟩) hgW).trans a0, (h.cell (p := ⟨g, off + 1, none⟩) hgW).trans a1, (h.cell (p := ⟨g, off + 2, none⟩) hgW).trans b0, (h.cell (p := ⟨g, off + 2 + 1, none⟩) hgW).trans b1⟩
      have HS2 : Hid (∀ W', Below W.heap.size W W' → W'.cell? ⟨B, 0, none⟩ = some v) := Lib.hid fun W' h => (h.cell (p := ⟨B, 0, none⟩) H1.out.lt).trans c0
      have HN : Hid (∀ g4 cap4, p2 [(a + b, (g4, cap4), l1 ++ l2)] = [.int .i64 ((a : Int) + (b : Int)), .slice (some ⟨g4, 0, none⟩) (n1 + n2) cap4]) := Lib.hid fun g4 cap4 => by
        show [pclW _, pclV _] = _
        simp only [pclW, pclV, List.length_append, ← Hn1.out, ← Hn2.out, Int.natCast_add]
      have hp5 : P.length ≤ 500 := by have := Hpn.out; omega
      have hwr : IntKind.i64.wrap ((a : Int) + (b : Int)) = (a : Int) + (b : Int) := IntWalk.i64_in _ (by omega)
      refine region_round (S := (fun W' : World => W'.cell? ⟨g, off, none⟩ = some (.int .i64 (a : Int)) ∧ W'.cell? ⟨g, off + 1, none⟩ = some (.slice (some ⟨g1, 0, none⟩) n1 c1) ∧ W'.cell? ⟨g, off + 2, none⟩ = some (.int .i64 (b : Int)) ∧ W'.cell? ⟨g, off + 2 + 1, none⟩ = some (.slice (some ⟨g2, 0, none⟩) n2 c2))) (by kernel_rfl) (by kernel_rfl) (fun ⟨_, _, h⟩ => h) ⟨a0, a1, b0, b1⟩ (fun hHeld => ?_)
      refine wpAnyH_take (i := 1) (oi := { dst := some 12, op := Go.Op.move (Go.Operand.tmp 4), type := 106, pos := "bound.go:48", after := #[], guard := none }) (v := ?_) rfl (by kernel_rfl) (by kernel_rfl) (by kernel_rfl) (fun _ _ _ h => h) (Or.inl ⟨by rfl, ?_⟩) (by assumption) ?_
      rotate_left
      · (intro w hSw; (try dsimp only at hSw); go_simp; (try with_reducible rfl))
      try simp only [Act.put, List.setIfInBounds_toArray, List.set_cons_zero, List.set_cons_succ]
      refine wpAnyH_take (i := 2) (oi := { dst := some 13, op := Go.Op.indexAddr 106 (Go.Operand.tmp 12) (Go.Operand.const (Go.Value.int Go.IntKind.i64 0)), type := 0, pos := "bound.go:48", after := #[{ on := 1, ground := Go.Ground.data }], guard := none }) (v := ?_) rfl (by kernel_rfl) (by kernel_rfl) (by kernel_rfl) (fun _ _ _ h => h) (Or.inl ⟨by rfl, ?_⟩) (by assumption) ?_
      rotate_left
      · (intro w hSw; (try dsimp only at hSw); go_simp; (try with_reducible rfl))
      try simp only [Act.put, List.setIfInBounds_toArray, List.set_cons_zero, List.set_cons_succ]
      refine wpAnyH_take (i := 3) (oi := { dst := some 14, op := Go.Op.fieldAddr 111 (Go.Operand.tmp 13) 0, type := 0, pos := "bound.go:48", after := #[{ on := 2, ground := Go.Ground.data }], guard := none }) (v := ?_) rfl (by kernel_rfl) (by kernel_rfl) (by kernel_rfl) (fun _ _ _ h => h) (Or.inl ⟨by rfl, ?_⟩) (by assumption) ?_
      rotate_left
      · (intro w hSw; (try dsimp only at hSw); go_simp; (try with_reducible rfl))
      try simp only [Act.put, List.setIfInBounds_toArray, List.set_cons_zero, List.set_cons_succ]
      refine wpAnyH_take (i := 4) (oi := { dst := some 15, op := Go.Op.load 3 (Go.Operand.tmp 14), type := 3, pos := "bound.go:48", after := #[{ on := 3, ground := Go.Ground.data }], guard := none }) (v := ?_) rfl (by kernel_rfl) (by kernel_rfl) (by kernel_rfl) (fun _ _ _ h => h) (Or.inl ⟨by rfl, ?_⟩) (by assumption) ?_
      rotate_left
      · (intro w hSw; (try dsimp only at hSw); go_simp; (try with_reducible rfl))
      try simp only [Act.put, List.setIfInBounds_toArray, List.set_cons_zero, List.set_cons_succ]
      refine wpAnyH_take (i := 5) (oi := { dst := some 16, op := Go.Op.move (Go.Operand.tmp 4), type := 106, pos := "bound.go:48", after := #[], guard := none }) (v := ?_) rfl (by kernel_rfl) (by kernel_rfl) (by kernel_rfl) (fun _ _ _ h => h) (Or.inl ⟨by rfl, ?_⟩) (by assumption) ?_
      rotate_left
      · (intro w hSw; (try dsimp only at hSw); go_simp; (try with_reducible rfl))
      try simp only [Act.put, List.setIfInBounds_toArray, List.set_cons_zero, List.set_cons_succ]
      refine wpAnyH_take (i := 6) (oi := { dst := some 17, op := Go.Op.indexAddr 106 (Go.Operand.tmp 16) (Go.Operand.const (Go.Value.int Go.IntKind.i64 1)), type := 0, pos := "bound.go:48", after := #[{ on := 5, ground := Go.Ground.data }], guard := none }) (v := ?_) rfl (by kernel_rfl) (by kernel_rfl) (by kernel_rfl) (fun _ _ _ h => h) (Or.inl ⟨by rfl, ?_⟩) (by assumption) ?_
      rotate_left
      · (intro w hSw; (try dsimp only at hSw); go_simp; (try with_reducible rfl))
      try simp only [Act.put, List.setIfInBounds_toArray, List.set_cons_zero, List.set_cons_succ]
      refine wpAnyH_take (i := 7) (oi := { dst := some 18, op := Go.Op.fieldAddr 111 (Go.Operand.tmp 17) 0, type := 0, pos := "bound.go:48", after := #[{ on := 6, ground := Go.Ground.data }], guard := none }) (v := ?_) rfl (by kernel_rfl) (by kernel_rfl) (by kernel_rfl) (fun _ _ _ h => h) (Or.inl ⟨by rfl, ?_⟩) (by assumption) ?_
      rotate_left
      · (intro w hSw; (try dsimp only at hSw); go_simp; (try with_reducible rfl))
      try simp only [Act.put, List.setIfInBounds_toArray, List.set_cons_zero, List.set_cons_succ]
      refine wpAnyH_take (i := 8) (oi := { dst := some 19, op := Go.Op.load 3 (Go.Operand.tmp 18), type := 3, pos := "bound.go:48", after := #[{ on := 7, ground := Go.Ground.data }], guard := none }) (v := ?_) rfl (by kernel_rfl) (by kernel_rfl) (by kernel_rfl) (fun _ _ _ h => h) (Or.inl ⟨by rfl, ?_⟩) (by assumption) ?_
      rotate_left
      · (intro w hSw; (try dsimp only at hSw); go_simp; (try with_reducible rfl))
      try simp only [Act.put, List.setIfInBounds_toArray, List.set_cons_zero, List.set_cons_succ]
      refine wpAnyH_take (i := 9) (oi := { dst := some 20, op := Go.Op.binOp Go.BinOp.add 3 (Go.Operand.tmp 15) (Go.Operand.tmp 19) 3, type := 3, pos := "bound.go:48", after := #[{ on := 4, ground := Go.Ground.data }, { on := 8, ground := Go.Ground.data }], guard := none }) (v := ?_) rfl (by kernel_rfl) (by kernel_rfl) (by kernel_rfl) (fun _ _ _ h => h) (Or.inl ⟨by rfl, ?_⟩) (by assumption) ?_
      rotate_left
      · (intro w hSw; (try dsimp only at hSw); go_simp; (try with_reducible rfl))
      try simp only [Act.put, List.setIfInBounds_toArray, List.set_cons_zero, List.set_cons_succ]
      refine wpAnyH_take (i := 10) (oi := { dst := some 21, op := Go.Op.move (Go.Operand.tmp 4), type := 106, pos := "bound.go:48", after := #[], guard := none }) (v := ?_) rfl (by kernel_rfl) (by kernel_rfl) (by kernel_rfl) (fun _ _ _ h => h) (Or.inl ⟨by rfl, ?_⟩) (by assumption) ?_
      rotate_left
      · (intro w hSw; (try dsimp only at hSw); go_simp; (try with_reducible rfl))
      try simp only [Act.put, List.setIfInBounds_toArray, List.set_cons_zero, List.set_cons_succ]
      refine wpAnyH_take (i := 11) (oi := { dst := some 22, op := Go.Op.indexAddr 106 (Go.Operand.tmp 21) (Go.Operand.const (Go.Value.int Go.IntKind.i64 0)), type := 0, pos := "bound.go:48", after := #[{ on := 10, ground := Go.Ground.data }], guard := none }) (v := ?_) rfl (by kernel_rfl) (by kernel_rfl) (by kernel_rfl) (fun _ _ _ h => h) (Or.inl ⟨by rfl, ?_⟩) (by assumption) ?_
      rotate_left
      · (intro w hSw; (try dsimp only at hSw); go_simp; (try with_reducible rfl))
      try simp only [Act.put, List.setIfInBounds_toArray, List.set_cons_zero, List.set_cons_succ]
      refine wpAnyH_take (i := 12) (oi := { dst := some 23, op := Go.Op.fieldAddr 111 (Go.Operand.tmp 22) 1, type := 0, pos := "bound.go:48", after := #[{ on := 11, ground := Go.Ground.data }], guard := none }) (v := ?_) rfl (by kernel_rfl) (by kernel_rfl) (by kernel_rfl) (fun _ _ _ h => h) (Or.inl ⟨by rfl, ?_⟩) (by assumption) ?_
      rotate_left
      · (intro w hSw; (try dsimp only at hSw); go_simp; (try with_reducible rfl))
      try simp only [Act.put, List.setIfInBounds_toArray, List.set_cons_zero, List.set_cons_succ]
      refine wpAnyH_take (i := 13) (oi := { dst := some 24, op := Go.Op.load 30 (Go.Operand.tmp 23), type := 30, pos := "bound.go:48", after := #[{ on := 12, ground := Go.Ground.data }], guard := none }) (v := ?_) rfl (by kernel_rfl) (by kernel_rfl) (by kernel_rfl) (fun _ _ _ h => h) (Or.inl ⟨by rfl, ?_⟩) (by assumption) ?_
      rotate_left
      · (intro w hSw; (try dsimp only at hSw); go_simp; (try with_reducible rfl))
      try simp only [Act.put, List.setIfInBounds_toArray, List.set_cons_zero, List.set_cons_succ]
      refine wpAnyH_take (i := 14) (oi := { dst := some 25, op := Go.Op.move (Go.Operand.tmp 4), type := 106, pos := "bound.go:48", after := #[], guard := none }) (v := ?_) rfl (by kernel_rfl) (by kernel_rfl) (by kernel_rfl) (fun _ _ _ h => h) (Or.inl ⟨by rfl, ?_⟩) (by assumption) ?_
      rotate_left
      · (intro w hSw; (try dsimp only at hSw); go_simp; (try with_reducible rfl))
      try simp only [Act.put, List.setIfInBounds_toArray, List.set_cons_zero, List.set_cons_succ]
      refine wpAnyH_take (i := 15) (oi := { dst := some 26, op := Go.Op.indexAddr 106 (Go.Operand.tmp 25) (Go.Operand.const (Go.Value.int Go.IntKind.i64 1)), type := 0, pos := "bound.go:48", after := #[{ on := 14, ground := Go.Ground.data }], guard := none }) (v := ?_) rfl (by kernel_rfl) (by kernel_rfl) (by kernel_rfl) (fun _ _ _ h => h) (Or.inl ⟨by rfl, ?_⟩) (by assumption) ?_
      rotate_left
      · (intro w hSw; (try dsimp only at hSw); go_simp; (try with_reducible rfl))
      try simp only [Act.put, List.setIfInBounds_toArray, List.set_cons_zero, List.set_cons_succ]
      refine wpAnyH_take (i := 16) (oi := { dst := some 27, op := Go.Op.fieldAddr 111 (Go.Operand.tmp 26) 1, type := 0, pos := "bound.go:48", after := #[{ on := 15, ground := Go.Ground.data }], guard := none }) (v := ?_) rfl (by kernel_rfl) (by kernel_rfl) (by kernel_rfl) (fun _ _ _ h => h) (Or.inl ⟨by rfl, ?_⟩) (by assumption) ?_
      rotate_left
      · (intro w hSw; (try dsimp only at hSw); go_simp; (try with_reducible rfl))
      try simp only [Act.put, List.setIfInBounds_toArray, List.set_cons_zero, List.set_cons_succ]
      refine wpAnyH_take (i := 17) (oi := { dst := some 28, op := Go.Op.load 30 (Go.Operand.tmp 27), type := 30, pos := "bound.go:48", after := #[{ on := 16, ground := Go.Ground.data }], guard := none }) (v := ?_) rfl (by kernel_rfl) (by kernel_rfl) (by kernel_rfl) (fun _ _ _ h => h) (Or.inl ⟨by rfl, ?_⟩) (by assumption) ?_
      rotate_left
      · (intro w hSw; (try dsimp only at hSw); go_simp; (try with_reducible rfl))
      try simp only [Act.put, List.setIfInBounds_toArray, List.set_cons_zero, List.set_cons_succ]
      refine wpAnyH_ready (rs := [0, 18]) (by kernel_rfl) (by simp) ?_
      refine AllReadyH.cons rfl (fun K hK => ?_) (AllReadyH.cons rfl (fun K hK => ?_) AllReadyH.nil)
      · have cB := HS2.out _ (Below.refl _ W).drew
        go_simp
        refine hK.out _ _ (HS1.out _ ((Below.refl _ W).drew.mono hBW)) (fun hHeld => ?_)
        clear hK K
        try simp only [Act.put, List.setIfInBounds_toArray, List.set_cons_zero, List.set_cons_succ]
        clear cB
        refine wpAnyH_ready (rs := [18]) (by kernel_rfl) (by simp) ?_
        refine AllReadyH.cons rfl (fun K hK => ?_) AllReadyH.nil
        go_simp
        refine hK.out _ _ (HS1.out _ (((Below.refl _ W).alloc (Nat.le_refl _) _).drew.mono hBW)) (fun hHeld => ?_)
        clear hK K
        try simp only [Act.put, List.setIfInBounds_toArray, List.set_cons_zero, List.set_cons_succ]
        refine wpAnyH_ready (rs := [19]) (by kernel_rfl) (by simp) ?_
        refine AllReadyH.cons rfl (fun K hK => ?_) AllReadyH.nil
        go_simp
        refine Hcon.out.mono ?_
        rintro e W4 ⟨g4, cap4, rfl, hh⟩
        have hr4 : Hid (∃ post, Row W4 g4 3 (i64s (l1 ++ l2) ++ post)) := Lib.hid hh.out.1
        have hb4 := Lib.hid hh.out.2
        clear hh
        go_simp
        refine hK.out _ _ (HS1.out _ (hb4.out.mono hBW)) (fun hHeld => ?_)
        clear hK K
        try simp only [Act.put, List.setIfInBounds_toArray, List.set_cons_zero, List.set_cons_succ]
        refine wpAnyH_take (i := 20) (oi := { dst := some 31, op := Go.Op.build 111 #[(0, Go.Operand.tmp 20), (1, Go.Operand.tmp 30)], type := 111, pos := "bound.go:48", after := #[{ on := 9, ground := Go.Ground.data }, { on := 19, ground := Go.Ground.data }], guard := none }) (v := ?_) rfl (by kernel_rfl) (by kernel_rfl) (by kernel_rfl) (fun _ _ _ h => h) (Or.inl ⟨by rfl, ?_⟩) (by assumption) ?_
        rotate_left
        · (intro w hSw; (try dsimp only at hSw); go_simp; (try with_reducible rfl))
        try simp only [Act.put, List.setIfInBounds_toArray, List.set_cons_zero, List.set_cons_succ]
        refine wpAnyH_ready (rs := [21]) (by kernel_rfl) (by simp) ?_
        refine AllReadyH.cons rfl (fun K hK => ?_) AllReadyH.nil
        go_simp
        refine hK.out _ _ (HS1.out _ ((hb4.out.alloc hb4.out.size _).mono hBW)) (fun hHeld => ?_)
        clear hK K
        try simp only [Act.put, List.setIfInBounds_toArray, List.set_cons_zero, List.set_cons_succ]
        refine wpAnyH_ready (rs := [22]) (by kernel_rfl) (by simp) ?_
        refine AllReadyH.cons rfl (fun K hK => ?_) AllReadyH.nil
        have HoA : Hid ((W4.alloc (.cells #[.int .i64 ((a : Int) + (b : Int)), .slice (some ⟨g4, 0, none⟩) (n1 + n2) cap4] 111)).ownsRow B 111 2 v P.length (p2 P)) := Lib.hid (own_none9 H2.out (grown_alloc (grown_below hb4.out none) _))
        have Hnews : Hid (∀ (j : Nat) (u : Value), ([.int .i64 ((a : Int) + (b : Int)), .slice (some ⟨g4, 0, none⟩) (n1 + n2) cap4] : List Value)[j]? = some u → (W4.alloc (.cells #[.int .i64 ((a : Int) + (b : Int)), .slice (some ⟨g4, 0, none⟩) (n1 + n2) cap4] 111)).cell? ((⟨W4.heap.size, 0, none⟩ : Addr).add j) = some u) := Lib.hid (fun j u hu => by
          match j, hu with
          | 0, hu => simp at hu; subst hu; simp [Addr.add]
          | 1, hu => simp at hu; subst hu; simp [Addr.add])
        refine step_append_lies (W4.alloc (.cells #[.int .i64 ((a : Int) + (b : Int)), .slice (some ⟨g4, 0, none⟩) (n1 + n2) cap4] 111)) (by rfl) _ _ _ (by rfl) B 111 i0 (.agg #[.int .i64 0, .slice none 0 0]) 2 32 Try.underlying106 hi hz0 hz1 hz2 rfl (by omega) v P.length (p2 P) (by rfl) HoA.out ⟨W4.heap.size, 0, none⟩ 1 1 [.int .i64 ((a : Int) + (b : Int)), .slice (some ⟨g4, 0, none⟩) (n1 + n2) cap4] (by rfl) (by rfl) Hnews.out (by intro u hu; simp at hu; rcases hu with rfl | rfl <;> rfl) (by omega) (by unfold maxLen; omega) (by omega) (by have := hb4.out.size; simp; omega) (W4.heap.size + 1) (by simp) ?_
        intro gN capN wN hoN hgN hatN hltN
        obtain ⟨post4, hr4'⟩ := hr4.out
        obtain ⟨⟨cN, fN⟩, E⟩ := pairs_end (u := (a + b, (g4, cap4), l1 ++ l2)) (hk := hk) HB.out H1.out H2.out H3.out H4.out H5.out H6.out H7.out (by have := Hm.out; omega) Hw2.out Hs2.out (HN.out g4 cap4) hb4.out hr4' hoN hgN
        have HE := Lib.hid E
        have hbN : Below B W wN := ((hb4.out.alloc hb4.out.size _).mono hBW).grown hgN (by have := hb4.out.size; simp; omega) (fun q hq => (HoA.out.lt q hq).1)
        refine hK.out _ _ (HS1.out _ hbN) (fun hHeld => ?_)
        clear hK K E hoN hgN hatN hltN hr4' HoA Hnews hbN
        try simp only [Act.put, List.setIfInBounds_toArray]
        refine wpAnyH_ready (rs := [23]) (by kernel_rfl) (by simp) ?_
        refine AllReadyH.cons rfl (fun K hK => ?_) AllReadyH.nil
        go_simp
        refine hK.out _ _ (HS1.out _ HE.out.2.1.1.1) (fun hHeld => ?_)
        clear hK K
        refine wpAnyH_done (by kernel_rfl) ?_ _
        exact HE.out
      · go_simp
        refine hK.out _ _ (HS1.out _ (((Below.refl _ W).alloc (Nat.le_refl _) _).drew.mono hBW)) (fun hHeld => ?_)
        clear hK K
        try simp only [Act.put, List.setIfInBounds_toArray, List.set_cons_zero, List.set_cons_succ]
        refine wpAnyH_ready (rs := [0, 19]) (by kernel_rfl) (by simp) ?_
        refine AllReadyH.cons rfl (fun K hK => ?_) (AllReadyH.cons rfl (fun K hK => ?_) AllReadyH.nil)
        · have cB := HS2.out _ ((Below.refl _ W).alloc (Nat.le_refl _) (.cells #[.slice (some ⟨g1, 0, none⟩) n1 c1, .slice (some ⟨g2, 0, none⟩) n2 c2] 30))
          go_simp
          refine hK.out _ _ (HS1.out _ (((Below.refl _ W).alloc (Nat.le_refl _) _).drew.mono hBW)) (fun hHeld => ?_)
          clear hK K
          try simp only [Act.put, List.setIfInBounds_toArray, List.set_cons_zero, List.set_cons_succ]
          clear cB
          refine wpAnyH_ready (rs := [19]) (by kernel_rfl) (by simp) ?_
          refine AllReadyH.cons rfl (fun K hK => ?_) AllReadyH.nil
          go_simp
          refine Hcon.out.mono ?_
          rintro e W4 ⟨g4, cap4, rfl, hh⟩
          have hr4 : Hid (∃ post, Row W4 g4 3 (i64s (l1 ++ l2) ++ post)) := Lib.hid hh.out.1
          have hb4 := Lib.hid hh.out.2
          clear hh
          go_simp
          refine hK.out _ _ (HS1.out _ (hb4.out.mono hBW)) (fun hHeld => ?_)
          clear hK K
          try simp only [Act.put, List.setIfInBounds_toArray, List.set_cons_zero, List.set_cons_succ]
          refine wpAnyH_take (i := 20) (oi := { dst := some 31, op := Go.Op.build 111 #[(0, Go.Operand.tmp 20), (1, Go.Operand.tmp 30)], type := 111, pos := "bound.go:48", after := #[{ on := 9, ground := Go.Ground.data }, { on := 19, ground := Go.Ground.data }], guard := none }) (v := ?_) rfl (by kernel_rfl) (by kernel_rfl) (by kernel_rfl) (fun _ _ _ h => h) (Or.inl ⟨by rfl, ?_⟩) (by assumption) ?_
          rotate_left
          · (intro w hSw; (try dsimp only at hSw); go_simp; (try with_reducible rfl))
          try simp only [Act.put, List.setIfInBounds_toArray, List.set_cons_zero, List.set_cons_succ]
          refine wpAnyH_ready (rs := [21]) (by kernel_rfl) (by simp) ?_
          refine AllReadyH.cons rfl (fun K hK => ?_) AllReadyH.nil
          go_simp
          refine hK.out _ _ (HS1.out _ ((hb4.out.alloc hb4.out.size _).mono hBW)) (fun hHeld => ?_)
          clear hK K
          try simp only [Act.put, List.setIfInBounds_toArray, List.set_cons_zero, List.set_cons_succ]
          refine wpAnyH_ready (rs := [22]) (by kernel_rfl) (by simp) ?_
          refine AllReadyH.cons rfl (fun K hK => ?_) AllReadyH.nil
          have HoA : Hid ((W4.alloc (.cells #[.int .i64 ((a : Int) + (b : Int)), .slice (some ⟨g4, 0, none⟩) (n1 + n2) cap4] 111)).ownsRow B 111 2 v P.length (p2 P)) := Lib.hid (own_none9 H2.out (grown_alloc (grown_below hb4.out none) _))
          have Hnews : Hid (∀ (j : Nat) (u : Value), ([.int .i64 ((a : Int) + (b : Int)), .slice (some ⟨g4, 0, none⟩) (n1 + n2) cap4] : List Value)[j]? = some u → (W4.alloc (.cells #[.int .i64 ((a : Int) + (b : Int)), .slice (some ⟨g4, 0, none⟩) (n1 + n2) cap4] 111)).cell? ((⟨W4.heap.size, 0, none⟩ : Addr).add j) = some u) := Lib.hid (fun j u hu => by
            match j, hu with
            | 0, hu => simp at hu; subst hu; simp [Addr.add]
            | 1, hu => simp at hu; subst hu; simp [Addr.add])
          refine step_append_lies (W4.alloc (.cells #[.int .i64 ((a : Int) + (b : Int)), .slice (some ⟨g4, 0, none⟩) (n1 + n2) cap4] 111)) (by rfl) _ _ _ (by rfl) B 111 i0 (.agg #[.int .i64 0, .slice none 0 0]) 2 32 Try.underlying106 hi hz0 hz1 hz2 rfl (by omega) v P.length (p2 P) (by rfl) HoA.out ⟨W4.heap.size, 0, none⟩ 1 1 [.int .i64 ((a : Int) + (b : Int)), .slice (some ⟨g4, 0, none⟩) (n1 + n2) cap4] (by rfl) (by rfl) Hnews.out (by intro u hu; simp at hu; rcases hu with rfl | rfl <;> rfl) (by omega) (by unfold maxLen; omega) (by omega) (by have := hb4.out.size; simp; omega) (W4.heap.size + 1) (by simp) ?_
          intro gN capN wN hoN hgN hatN hltN
          obtain ⟨post4, hr4'⟩ := hr4.out
          obtain ⟨⟨cN, fN⟩, E⟩ := pairs_end (u := (a + b, (g4, cap4), l1 ++ l2)) (hk := hk) HB.out H1.out H2.out H3.out H4.out H5.out H6.out H7.out (by have := Hm.out; omega) Hw2.out Hs2.out (HN.out g4 cap4) hb4.out hr4' hoN hgN
          have HE := Lib.hid E
          have hbN : Below B W wN := ((hb4.out.alloc hb4.out.size _).mono hBW).grown hgN (by have := hb4.out.size; simp; omega) (fun q hq => (HoA.out.lt q hq).1)
          refine hK.out _ _ (HS1.out _ hbN) (fun hHeld => ?_)
          clear hK K E hoN hgN hatN hltN hr4' HoA Hnews hbN
          try simp only [Act.put, List.setIfInBounds_toArray]
          refine wpAnyH_ready (rs := [23]) (by kernel_rfl) (by simp) ?_
          refine AllReadyH.cons rfl (fun K hK => ?_) AllReadyH.nil
          go_simp
          refine hK.out _ _ (HS1.out _ HE.out.2.1.1.1) (fun hHeld => ?_)
          clear hK K
          refine wpAnyH_done (by kernel_rfl) ?_ _
          exact HE.out
        · go_simp
          refine Hcon.out.mono ?_
          rintro e W4 ⟨g4, cap4, rfl, hh⟩
          have hr4 : Hid (∃ post, Row W4 g4 3 (i64s (l1 ++ l2) ++ post)) := Lib.hid hh.out.1
          have hb4 := Lib.hid hh.out.2
          clear hh
          go_simp
          refine hK.out _ _ (HS1.out _ (hb4.out.mono hBW)) (fun hHeld => ?_)
          clear hK K
          try simp only [Act.put, List.setIfInBounds_toArray, List.set_cons_zero, List.set_cons_succ]
          refine wpAnyH_take (i := 20) (oi := { dst := some 31, op := Go.Op.build 111 #[(0, Go.Operand.tmp 20), (1, Go.Operand.tmp 30)], type := 111, pos := "bound.go:48", after := #[{ on := 9, ground := Go.Ground.data }, { on := 19, ground := Go.Ground.data }], guard := none }) (v := ?_) rfl (by kernel_rfl) (by kernel_rfl) (by kernel_rfl) (fun _ _ _ h => h) (Or.inl ⟨by rfl, ?_⟩) (by assumption) ?_
          rotate_left
          · (intro w hSw; (try dsimp only at hSw); go_simp; (try with_reducible rfl))
          try simp only [Act.put, List.setIfInBounds_toArray, List.set_cons_zero, List.set_cons_succ]
          refine wpAnyH_ready (rs := [0, 21]) (by kernel_rfl) (by simp) ?_
          refine AllReadyH.cons rfl (fun K hK => ?_) (AllReadyH.cons rfl (fun K hK => ?_) AllReadyH.nil)
          · have cB := HS2.out _ hb4.out
            go_simp
            refine hK.out _ _ (HS1.out _ (hb4.out.mono hBW)) (fun hHeld => ?_)
            clear hK K
            try simp only [Act.put, List.setIfInBounds_toArray, List.set_cons_zero, List.set_cons_succ]
            clear cB
            refine wpAnyH_ready (rs := [21]) (by kernel_rfl) (by simp) ?_
            refine AllReadyH.cons rfl (fun K hK => ?_) AllReadyH.nil
            go_simp
            refine hK.out _ _ (HS1.out _ ((hb4.out.alloc hb4.out.size _).mono hBW)) (fun hHeld => ?_)
            clear hK K
            try simp only [Act.put, List.setIfInBounds_toArray, List.set_cons_zero, List.set_cons_succ]
            refine wpAnyH_ready (rs := [22]) (by kernel_rfl) (by simp) ?_
            refine AllReadyH.cons rfl (fun K hK => ?_) AllReadyH.nil
            have HoA : Hid ((W4.alloc (.cells #[.int .i64 ((a : Int) + (b : Int)), .slice (some ⟨g4, 0, none⟩) (n1 + n2) cap4] 111)).ownsRow B 111 2 v P.length (p2 P)) := Lib.hid (own_none9 H2.out (grown_alloc (grown_below hb4.out none) _))
            have Hnews : Hid (∀ (j : Nat) (u : Value), ([.int .i64 ((a : Int) + (b : Int)), .slice (some ⟨g4, 0, none⟩) (n1 + n2) cap4] : List Value)[j]? = some u → (W4.alloc (.cells #[.int .i64 ((a : Int) + (b : Int)), .slice (some ⟨g4, 0, none⟩) (n1 + n2) cap4] 111)).cell? ((⟨W4.heap.size, 0, none⟩ : Addr).add j) = some u) := Lib.hid (fun j u hu => by
              match j, hu with
              | 0, hu => simp at hu; subst hu; simp [Addr.add]
              | 1, hu => simp at hu; subst hu; simp [Addr.add])
            refine step_append_lies (W4.alloc (.cells #[.int .i64 ((a : Int) + (b : Int)), .slice (some ⟨g4, 0, none⟩) (n1 + n2) cap4] 111)) (by rfl) _ _ _ (by rfl) B 111 i0 (.agg #[.int .i64 0, .slice none 0 0]) 2 32 Try.underlying106 hi hz0 hz1 hz2 rfl (by omega) v P.length (p2 P) (by rfl) HoA.out ⟨W4.heap.size, 0, none⟩ 1 1 [.int .i64 ((a : Int) + (b : Int)), .slice (some ⟨g4, 0, none⟩) (n1 + n2) cap4] (by rfl) (by rfl) Hnews.out (by intro u hu; simp at hu; rcases hu with rfl | rfl <;> rfl) (by omega) (by unfold maxLen; omega) (by omega) (by have := hb4.out.size; simp; omega) (W4.heap.size + 1) (by simp) ?_
            intro gN capN wN hoN hgN hatN hltN
            obtain ⟨post4, hr4'⟩ := hr4.out
            obtain ⟨⟨cN, fN⟩, E⟩ := pairs_end (u := (a + b, (g4, cap4), l1 ++ l2)) (hk := hk) HB.out H1.out H2.out H3.out H4.out H5.out H6.out H7.out (by have := Hm.out; omega) Hw2.out Hs2.out (HN.out g4 cap4) hb4.out hr4' hoN hgN
            have HE := Lib.hid E
            have hbN : Below B W wN := ((hb4.out.alloc hb4.out.size _).mono hBW).grown hgN (by have := hb4.out.size; simp; omega) (fun q hq => (HoA.out.lt q hq).1)
            refine hK.out _ _ (HS1.out _ hbN) (fun hHeld => ?_)
            clear hK K E hoN hgN hatN hltN hr4' HoA Hnews hbN
            try simp only [Act.put, List.setIfInBounds_toArray]
            refine wpAnyH_ready (rs := [23]) (by kernel_rfl) (by simp) ?_
            refine AllReadyH.cons rfl (fun K hK => ?_) AllReadyH.nil
            go_simp
            refine hK.out _ _ (HS1.out _ HE.out.2.1.1.1) (fun hHeld => ?_)
            clear hK K
            refine wpAnyH_done (by kernel_rfl) ?_ _
            exact HE.out
          · go_simp
            refine hK.out _ _ (HS1.out _ ((hb4.out.alloc hb4.out.size _).mono hBW)) (fun hHeld => ?_)
            clear hK K
            try simp only [Act.put, List.setIfInBounds_toArray, List.set_cons_zero, List.set_cons_succ]
            refine wpAnyH_ready (rs := [0]) (by kernel_rfl) (by simp) ?_
            refine AllReadyH.cons rfl (fun K hK => ?_) AllReadyH.nil
            have cB := HS2.out _ (hb4.out.alloc hb4.out.size (.cells #[.int .i64 ((a : Int) + (b : Int)), .slice (some ⟨g4, 0, none⟩) (n1 + n2) cap4] 111))
            go_simp
            refine hK.out _ _ (HS1.out _ ((hb4.out.alloc hb4.out.size _).mono hBW)) (fun hHeld => ?_)
            clear hK K
            try simp only [Act.put, List.setIfInBounds_toArray, List.set_cons_zero, List.set_cons_succ]
            clear cB
            refine wpAnyH_ready (rs := [22]) (by kernel_rfl) (by simp) ?_
            refine AllReadyH.cons rfl (fun K hK => ?_) AllReadyH.nil
            have HoA : Hid ((W4.alloc (.cells #[.int .i64 ((a : Int) + (b : Int)), .slice (some ⟨g4, 0, none⟩) (n1 + n2) cap4] 111)).ownsRow B 111 2 v P.length (p2 P)) := Lib.hid (own_none9 H2.out (grown_alloc (grown_below hb4.out none) _))
            have Hnews : Hid (∀ (j : Nat) (u : Value), ([.int .i64 ((a : Int) + (b : Int)), .slice (some ⟨g4, 0, none⟩) (n1 + n2) cap4] : List Value)[j]? = some u → (W4.alloc (.cells #[.int .i64 ((a : Int) + (b : Int)), .slice (some ⟨g4, 0, none⟩) (n1 + n2) cap4] 111)).cell? ((⟨W4.heap.size, 0, none⟩ : Addr).add j) = some u) := Lib.hid (fun j u hu => by
              match j, hu with
              | 0, hu => simp at hu; subst hu; simp [Addr.add]
              | 1, hu => simp at hu; subst hu; simp [Addr.add])
            refine step_append_lies (W4.alloc (.cells #[.int .i64 ((a : Int) + (b : Int)), .slice (some ⟨g4, 0, none⟩) (n1 + n2) cap4] 111)) (by rfl) _ _ _ (by rfl) B 111 i0 (.agg #[.int .i64 0, .slice none 0 0]) 2 32 Try.underlying106 hi hz0 hz1 hz2 rfl (by omega) v P.length (p2 P) (by rfl) HoA.out ⟨W4.heap.size, 0, none⟩ 1 1 [.int .i64 ((a : Int) + (b : Int)), .slice (some ⟨g4, 0, none⟩) (n1 + n2) cap4] (by rfl) (by rfl) Hnews.out (by intro u hu; simp at hu; rcases hu with rfl | rfl <;> rfl) (by omega) (by unfold maxLen; omega) (by omega) (by have := hb4.out.size; simp; omega) (W4.heap.size + 1) (by simp) ?_
            intro gN capN wN hoN hgN hatN hltN
            obtain ⟨post4, hr4'⟩ := hr4.out
            obtain ⟨⟨cN, fN⟩, E⟩ := pairs_end (u := (a + b, (g4, cap4), l1 ++ l2)) (hk := hk) HB.out H1.out H2.out H3.out H4.out H5.out H6.out H7.out (by have := Hm.out; omega) Hw2.out Hs2.out (HN.out g4 cap4) hb4.out hr4' hoN hgN
            have HE := Lib.hid E
            have hbN : Below B W wN := ((hb4.out.alloc hb4.out.size _).mono hBW).grown hgN (by have := hb4.out.size; simp; omega) (fun q hq => (HoA.out.lt q hq).1)
            refine hK.out _ _ (HS1.out _ hbN) (fun hHeld => ?_)
            clear hK K E hoN hgN hatN hltN hr4' HoA Hnews hbN
            try simp only [Act.put, List.setIfInBounds_toArray]
            refine wpAnyH_ready (rs := [23]) (by kernel_rfl) (by simp) ?_
            refine AllReadyH.cons rfl (fun K hK => ?_) AllReadyH.nil
            go_simp
            refine hK.out _ _ (HS1.out _ HE.out.2.1.1.1) (fun hHeld => ?_)
            clear hK K
            refine wpAnyH_done (by kernel_rfl) ?_ _
            exact HE.out
    · have e2 : chkLen m k = 1 := by unfold chkLen; rw [if_neg hkm]
      rw [e2]
      have Hout : Hid (KeepsFrom (B + 3) W W ∧ KeepC B (B + 1) (B + 2) W W ∧ PairsI T m B (.slice (some ⟨g, 0, none⟩) m cap) w (pre ++ [⟨k, hk⟩]) W) := Lib.hid
        ⟨KeepsFrom.refl _ _, ⟨⟨Below.refl _ _, rfl⟩, rfl⟩, ⟨v, P, h1, h2', by rw [List.map_append]; exact .skip h3 (by have := Hm.out; show ¬ 2 * k + 1 < T.length; omega), h4⟩, ⟨h5, h6⟩, h7⟩
      clear h1 h2' h3 h4 h5 h6 h7
      gi_wp2
      exact Hout.out
  case done =>
    rintro D ys W hD hys ⟨⟨v, P, h1, h2, h3, h4⟩, _, h7⟩ hK
    rw [hys] at h3
    obtain ⟨r1, r2⟩ := col_range T _ P h3 (by have := Hm.out; omega)
    have c1 := h1.cell
    have Hpo : Hid (Bm.PairsOf T P) := Lib.hid ⟨by have := Hm.out; omega, fun x hx => (r2 x hx).1, fun x hx => (r2 x hx).2⟩
    have H2 := Lib.hid h2
    have H4 := Lib.hid h4
    have H7 := Lib.hid h7
    clear h2 h3 h4 h7 r1 r2 h1
    gi_wp2
    refine ⟨by simp, .inl ⟨_, _, rfl, run_takeDeferred hK, ?_⟩⟩
    refine ⟨_, results_tmp rfl _ _ _, v, P, rfl, Hpo.out, ?_, H4.out.far (grownBy_putObj' W D (.deferred none)) fun b e => ?_, ?_⟩
    · rw [← HB.out]
      exact ownsRow_putObj H2.out _ hK rfl
    · injection e with e
      subst e
      exact ⟨_, hK, fun cs e' => by cases e'⟩
    · rw [← HB.out]
      exact H7.out.trans (belowK_b (w := w) (by have := HB.out; omega) W D _ _ (by have := HB.out; omega) hK rfl rfl)
  case stop =>
    rintro D c pre W _ _ h _
    exact h.elim
end Go.Proofs.Ytgcfdjgfnagmjaa

namespace Go.Proofs.Ytgcfdjgfnagmjaa
open Go.RowKit
namespace Bm
/-- Where one symbol alone occurs no length is above 11. -/
theorem unb_short {cs ls : List Nat} (hu : UnbN cs ls) (h256 : cs.length ≤ 256) (hex : ∃ x ∈ cs, 0 < x) (h2 : (lvs cs).length < 2) : ∀ x ∈ ls, x ≤ 11 := by
  have h1 := lvs_some cs hex
  obtain ⟨c, i, hci⟩ : ∃ c i, lvs cs = [(c, i)] := by
    match h : lvs cs with
    | [] => rw [h] at h1; simp at h1
    | [(c, i)] => exact ⟨c, i, rfl⟩
    | _ :: _ :: _ => rw [h] at h2; simp only [List.length_cons] at h2; omega
  have hm := (lvsTo_mem cs cs.length (c, i)).1 (show (c, i) ∈ lvs cs by rw [hci]; simp)
  simp only at hm
  obtain ⟨hi, hc, h0⟩ := hm
  have e1 := hu.cost
  have e2 := (unb_one hci h256).cost
  rw [← e2, costN_lvs, costN_lvs, hci] at e1
  simp only [List.map_cons, List.map_nil, List.sum_cons, List.sum_nil, Nat.add_zero] at e1
  have e3 : nat1 ((List.replicate cs.length 0).set i 1) i = 1 := by
    unfold nat1
    rw [List.getElem?_set_self (by simpa using hi)]
    rfl
  rw [e3] at e1
  have hcp : 0 < c := by omega
  have e4 : nat1 ls i = 1 := Nat.eq_of_mul_eq_mul_left hcp e1
  intro x hx
  obtain ⟨k, hk, rfl⟩ := List.mem_iff_getElem.1 hx
  have hkc : k < cs.length := by rw [← hu.len]; exact hk
  by_cases hki : k = i
  · subst hki
    unfold nat1 at e4
    rw [List.getElem?_eq_getElem hk, Option.getD_some] at e4
    omega
  · have hz : ¬ 0 < cs[k]?.getD 0 := fun h => by
      have hmem : (cs[k]?.getD 0, k) ∈ lvs cs := (lvsTo_mem cs cs.length _).2 ⟨hkc, rfl, h⟩
      rw [hci] at hmem
      simp only [List.mem_singleton] at hmem
      injection hmem with _ e
      exact hki e
    have := mt (hu.just k hkc).1 hz
    rw [List.getElem?_eq_getElem hk, Option.getD_some] at this
    omega
end Bm
end Go.Proofs.Ytgcfdjgfnagmjaa

namespace Go.Proofs.Ytgcfdjgfnagmjaa
open Go.RowKit
theorem ulen_is : HLens := by
  intro w A c l hl hb hr hR
  refine (ulen_any (fun _ => True) A c l w (by unfold maxLen; omega) hr hR trivial (fun cs ls W _ hl hm hex hr hu => ?_)).mono ?_
  · by_cases h2 : 2 ≤ (Bm.lvs cs).length
    · exact .inr (ubnd_any pairs_is A c cs W hl hm hex h2 hr)
    · exact .inl (Bm.unb_short hu hl hex (by omega))
  · rintro e w' ⟨v, rfl, B, d, ls, rfl, hd, h1, h2, h3⟩
    rw [List.length_map] at hd
    exact ⟨B, d, ls, by rw [List.length_map], hd, h1, h2, h3⟩
theorem map_back (l : List Nat) : (l.map fun n : Nat => (n : Int)).map Int.toNat = l := by
  rw [List.map_map]
  conv => rhs; rw [← List.map_id l]
  apply List.map_congr_left
  intro x _
  simp
end Go.Proofs.Ytgcfdjgfnagmjaa
