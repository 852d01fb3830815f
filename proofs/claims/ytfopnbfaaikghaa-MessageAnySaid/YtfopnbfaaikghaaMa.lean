/-
  Plain mathematics for layer 25 (message): a number's span, a kind's body, which messages may be, a message's bytes, what bytes are read as
  (in the program's way: decP, in the document's: decR), that both agree. It speaks of no program. No condition.
-/
import Derived.Test.YtfopnbfaaikghaaMc
import Derived.Test.YtfopnbfaaikghaaXo
namespace Go.Proofs.Ytfopnbfaaikghaa

/-- What a number may be. -/
structure Sp where
  least : Int
  most : Int
/-- What the messages of a kind may have. -/
structure Bdy where
  next : Sp
  epoch : Sp
  size : Sp
  sum : Bool
  data : Sp
structure Msg where
  kind : Int
  next : Int
  epoch : Int
  size : Int
  sum : Nat
  data : List Nat
def zsp : Sp := ⟨0, 0⟩
def zbd : Bdy := ⟨zsp, zsp, zsp, false, zsp⟩
def zms : Msg := ⟨0, 0, 0, 0, 0, []⟩
def Sp.has (s : Sp) (n : Int) : Bool := decide (s.least ≤ n) && decide (n ≤ s.most)
def Sp.there (s : Sp) : Bool := decide (0 < s.most)
def spN : Sp := ⟨0, 400⟩
def spE0 : Sp := ⟨0, 1073741824⟩
def spE : Sp := ⟨1, 1073741824⟩
def spS : Sp := ⟨0, 1048576⟩
def bodyK (k : Int) : Option Bdy :=
  if k = 1 ∨ k = 2 then some ⟨spN, spE0, zsp, false, zsp⟩
  else if k = 3 then some ⟨zsp, spE, zsp, false, ⟨0, 300⟩⟩
  else if k = 4 ∨ k = 5 then some ⟨zsp, spE, zsp, false, zsp⟩
  else if k = 6 then some ⟨spN, zsp, zsp, false, ⟨0, 600⟩⟩
  else if k = 7 then some ⟨spN, zsp, zsp, false, zsp⟩
  else if k = 8 then some ⟨spN, zsp, spS, true, zsp⟩
  else if k = 9 then some ⟨zsp, zsp, spS, false, ⟨1, 200⟩⟩
  else if k = 10 then some zbd
  else none
/-- The ten kinds. -/
theorem kind_cases (k : Int) (h : ¬ (k < 1 ∨ 10 < k)) : k = 1 ∨ k = 2 ∨ k = 3 ∨ k = 4 ∨ k = 5 ∨ k = 6 ∨ k = 7 ∨ k = 8 ∨ k = 9 ∨ k = 10 := by omega
theorem body_none {k : Int} (h : k < 1 ∨ 10 < k) : bodyK k = none := by
  unfold bodyK
  rw [if_neg (by omega), if_neg (by omega), if_neg (by omega), if_neg (by omega), if_neg (by omega), if_neg (by omega), if_neg (by omega), if_neg (by omega)]
theorem body_kind {k : Int} {b : Bdy} (h : bodyK k = some b) : 1 ≤ k ∧ k ≤ 10 := by
  by_cases h2 : k < 1 ∨ 10 < k
  · rw [body_none h2] at h; exact absurd h (by simp)
  · omega
/-- A span as those here are. -/
def Sp.Ok (s : Sp) : Prop := 0 ≤ s.least ∧ 0 ≤ s.most ∧ s.most ≤ 1073741824
def Bdy.Ok (b : Bdy) : Prop := b.next.Ok ∧ b.epoch.Ok ∧ b.size.Ok ∧ b.data.Ok ∧ b.data.most ≤ 600
theorem zbd_ok : zbd.Ok := by refine ⟨?_, ?_, ?_, ?_, ?_⟩ <;> simp [zbd, zsp, Sp.Ok]
theorem body_ok {k : Int} {b : Bdy} (h : bodyK k = some b) : b.Ok := by
  by_cases hk : k < 1 ∨ 10 < k
  · rw [body_none hk] at h; exact absurd h (by simp)
  rcases kind_cases k hk with rfl | rfl | rfl | rfl | rfl | rfl | rfl | rfl | rfl | rfl
  all_goals
    simp [bodyK] at h
    subst h
    simp [Bdy.Ok, Sp.Ok, spN, spE0, spE, spS, zsp, zbd]
theorem body_getD (k : Int) : ((bodyK k).getD zbd).Ok := by
  rcases h : bodyK k with _ | b
  · exact zbd_ok
  · exact body_ok h

/-- Whether a message may be. -/
def Bdy.right (b : Bdy) (m : Msg) : Bool := b.next.has m.next && (b.epoch.has m.epoch && (b.size.has m.size && ((b.sum || decide (m.sum = 0)) && b.data.has (m.data.length : Int))))
def rightM (m : Msg) : Bool := (bodyK m.kind).isSome && ((bodyK m.kind).getD zbd).right m
/-- The document's words for it. -/
def rightR (m : Msg) : Bool :=
  if m.next < 0 ∨ 400 < m.next ∨ m.epoch < 0 ∨ 1073741824 < m.epoch ∨ m.size < 0 ∨ 1048576 < m.size then false
  else if m.kind = 1 ∨ m.kind = 2 then decide (m.size = 0) && (decide (m.sum = 0) && decide (m.data = []))
  else if m.kind = 3 then decide (m.next = 0) && (decide (m.size = 0) && (decide (m.sum = 0) && (!decide (m.epoch = 0) && decide (m.data.length ≤ 300))))
  else if m.kind = 4 ∨ m.kind = 5 then decide (m.next = 0) && (decide (m.size = 0) && (decide (m.sum = 0) && (!decide (m.epoch = 0) && decide (m.data = []))))
  else if m.kind = 6 then decide (m.epoch = 0) && (decide (m.size = 0) && (decide (m.sum = 0) && decide (m.data.length ≤ 600)))
  else if m.kind = 7 then decide (m.epoch = 0) && (decide (m.size = 0) && (decide (m.sum = 0) && decide (m.data = [])))
  else if m.kind = 8 then decide (m.epoch = 0) && decide (m.data = [])
  else if m.kind = 9 then decide (m.next = 0) && (decide (m.epoch = 0) && (decide (m.sum = 0) && (!decide (m.data = []) && decide (m.data.length ≤ 200))))
  else if m.kind = 10 then decide (m.next = 0) && (decide (m.epoch = 0) && (decide (m.size = 0) && (decide (m.sum = 0) && decide (m.data = []))))
  else false
theorem nil_len (l : List Nat) : l = [] ↔ l.length = 0 := by cases l <;> simp
theorem right_same (m : Msg) : rightR m = rightM m := by
  obtain ⟨k, n, e, z, s, d⟩ := m
  rw [Bool.eq_iff_iff]
  by_cases hk : k < 1 ∨ 10 < k
  · unfold rightR rightM
    rw [body_none hk]
    simp only [Option.isSome_none, Bool.false_and]
    split
    · rfl
    · rw [if_neg (by omega), if_neg (by omega), if_neg (by omega), if_neg (by omega), if_neg (by omega), if_neg (by omega), if_neg (by omega), if_neg (by omega)]
  rcases kind_cases k hk with rfl | rfl | rfl | rfl | rfl | rfl | rfl | rfl | rfl | rfl
  all_goals
    simp only [rightR, rightM, bodyK, Bdy.right, Sp.has, spN, spE0, spE, spS, zsp, zbd]
    simp only [nil_len]
    generalize d.length = L
    simp
    omega

/-- What of a message stands in its bytes. -/
def putS (s : Sp) (n : Int) : List Nat := if s.there = true then Bm.grp n.toNat else []
def sumS (on : Bool) (n : Nat) : List Nat := if on = true then Bm.bytesOf n 8 else []
def dataS (s : Sp) (d : List Nat) : List Nat := if s.there = true then Bm.grp d.length ++ d else []
def Bdy.bytes (b : Bdy) (m : Msg) : List Nat := putS b.next m.next ++ (putS b.epoch m.epoch ++ (putS b.size m.size ++ (sumS b.sum m.sum ++ dataS b.data m.data)))
def bytesM (m : Msg) : List Nat := ((bodyK m.kind).getD zbd).bytes m
/-- A message whose data are bytes. -/
def Msg.Ok (m : Msg) : Prop := m.sum < 2 ^ 64 ∧ ∀ x ∈ m.data, x < 256

theorem has_iff (s : Sp) (n : Int) : s.has n = true ↔ s.least ≤ n ∧ n ≤ s.most := by simp [Sp.has]
theorem Bdy.right_iff (b : Bdy) (m : Msg) : b.right m = true ↔ b.next.has m.next = true ∧ b.epoch.has m.epoch = true ∧ b.size.has m.size = true ∧ (b.sum = true ∨ m.sum = 0) ∧ b.data.has (m.data.length : Int) = true := by
  simp [Bdy.right]
theorem right_some {m : Msg} (h : rightM m = true) : ∃ b, bodyK m.kind = some b ∧ b.right m = true := by
  unfold rightM at h
  rcases hb : bodyK m.kind with _ | b
  · rw [hb] at h; exact absurd h (by simp)
  · rw [hb] at h; exact ⟨b, rfl, by simpa using h⟩
theorem right_of {m : Msg} {b : Bdy} (hb : bodyK m.kind = some b) (h : b.right m = true) : rightM m = true := by
  unfold rightM; rw [hb]; simpa using h
theorem bytes_of {m : Msg} {b : Bdy} (hb : bodyK m.kind = some b) : bytesM m = b.bytes m := by unfold bytesM; rw [hb]; rfl

theorem putS_len (s : Sp) (hs : s.Ok) (n : Int) (h : s.has n = true) : (putS s n).length ≤ 10 := by
  have h2 := (has_iff s n).1 h
  have h3 := hs.2.2
  unfold putS
  split
  · exact Bm.grp_ten _ (by omega)
  · exact Nat.zero_le _
theorem putS_lt (s : Sp) (hs : s.Ok) (n : Int) (h : s.has n = true) : ∀ x ∈ putS s n, x < 256 := by
  have h2 := (has_iff s n).1 h
  have h3 := hs.2.2
  unfold putS
  split
  · exact Bm.grp_lt _ (by omega)
  · simp
theorem Bdy.bytes_len {b : Bdy} (hb : b.Ok) (m : Msg) (h : b.right m = true) : (b.bytes m).length ≤ 700 := by
  obtain ⟨h1, h2, h3, h4, h5⟩ := (b.right_iff m).1 h
  have a1 := putS_len _ hb.1 _ h1
  have a2 := putS_len _ hb.2.1 _ h2
  have a3 := putS_len _ hb.2.2.1 _ h3
  have a4 : (sumS b.sum m.sum).length ≤ 8 := by unfold sumS; split <;> simp [Bm.bytesOf_length]
  have a5 : (dataS b.data m.data).length ≤ 610 := by
    have h6 := (has_iff _ _).1 h5
    have h7 := hb.2.2.2.2
    unfold dataS
    split
    · have h8 := Bm.grp_ten m.data.length (by omega)
      rw [List.length_append]; omega
    · exact Nat.zero_le _
  unfold Bdy.bytes
  simp only [List.length_append]
  omega
theorem Bdy.bytes_lt {b : Bdy} (hb : b.Ok) (m : Msg) (hm : m.Ok) (h : b.right m = true) : ∀ x ∈ b.bytes m, x < 256 := by
  obtain ⟨h1, h2, h3, h4, h5⟩ := (b.right_iff m).1 h
  have h6 := (has_iff _ _).1 h5
  have h7 := hb.2.2.2.2
  refine append_lt (putS_lt _ hb.1 _ h1) (append_lt (putS_lt _ hb.2.1 _ h2) (append_lt (putS_lt _ hb.2.2.1 _ h3) (append_lt ?_ ?_)))
  · unfold sumS; split
    · exact Bm.bytesOf_lt _ _
    · simp
  · unfold dataS; split
    · exact append_lt (Bm.grp_lt _ (by omega)) hm.2
    · simp
theorem frame_ok {m : Msg} (hm : m.Ok) (h : rightM m = true) : Bm.FrOk (m.kind, bytesM m) := by
  obtain ⟨b, hb, hr⟩ := right_some h
  rw [bytes_of hb]
  have h1 := Bdy.bytes_len (body_ok hb) m hr
  exact ⟨(body_kind hb).1, (body_kind hb).2, by show (b.bytes m).length ≤ 900; omega, Bdy.bytes_lt (body_ok hb) m hm hr⟩

/-- What the program's calls read. -/
def takeS (s : Sp) (st : Left) : Int × Left := if s.there = true then (((intS s.most st).1 : Int), (intS s.most st).2) else (0, st)
def sumT (on : Bool) (st : Left) : Nat × Left := if on = true then (Bm.valB (rawS 8 st).1, (rawS 8 st).2) else (0, st)
def dataT (s : Sp) (st : Left) : List Nat × Left := if s.there = true then textS s.most st else ([], st)
def Bdy.st1 (b : Bdy) (s : List Nat) : Left := (takeS b.next (some s)).2
def Bdy.st2 (b : Bdy) (s : List Nat) : Left := (takeS b.epoch (b.st1 s)).2
def Bdy.st3 (b : Bdy) (s : List Nat) : Left := (takeS b.size (b.st2 s)).2
def Bdy.st4 (b : Bdy) (s : List Nat) : Left := (sumT b.sum (b.st3 s)).2
def Bdy.st5 (b : Bdy) (s : List Nat) : Left := (dataT b.data (b.st4 s)).2
def Bdy.msg (b : Bdy) (k : Int) (s : List Nat) : Msg :=
  ⟨k, (takeS b.next (some s)).1, (takeS b.epoch (b.st1 s)).1, (takeS b.size (b.st2 s)).1, (sumT b.sum (b.st3 s)).1, (dataT b.data (b.st4 s)).1⟩
def Bdy.dec (b : Bdy) (k : Int) (s : List Nat) : Option Msg := if b.st5 s = some [] ∧ b.right (b.msg k s) = true then some (b.msg k s) else none
def decP (k : Int) (s : List Nat) : Option Msg := if (bodyK k).isSome = true then ((bodyK k).getD zbd).dec k s else none

theorem groups_put (v : Nat) (l : List Nat) (h : v < 2 ^ 64) : groupS (some (Bm.grp v ++ l)) = (v, some l) := by
  have h1 := Bm.firstG_grp v l h
  have h2 := Bm.grp_pos v h
  simp [groupS, h1, h2]
theorem ints_put (most : Int) (v : Nat) (l : List Nat) (h : v < 2 ^ 64) (hm : (v : Int) ≤ most) : intS most (some (Bm.grp v ++ l)) = (v, some l) := by
  unfold intS
  rw [groups_put v l h, if_neg (by simp; omega)]
theorem ints_some (most : Int) (st : Left) (l : List Nat) (h : (intS most st).2 = some l) : st = some (Bm.grp (intS most st).1 ++ l) := by
  unfold intS at h ⊢
  by_cases hc : (groupS st).2 = none ∨ most < 0 ∨ most < ((groupS st).1 : Int)
  · rw [if_pos hc] at h; exact absurd h (by simp)
  · rw [if_neg hc] at h ⊢
    rcases st with _ | bs
    · exact absurd h (by simp [groupS])
    · by_cases hp : 0 < (Bm.firstG bs).2
      · simp only [groupS, if_pos hp] at h ⊢
        obtain ⟨_, h2, _⟩ := Bm.firstG_some bs (Bm.firstG bs).1 (Bm.firstG bs).2 hp rfl
        rw [← h2, ← Option.some.inj h, List.take_append_drop]
      · simp only [groupS, if_neg hp] at h
        exact absurd h (by simp)
theorem takeS_put (s : Sp) (hs : s.Ok) (n : Int) (h : s.has n = true) (l : List Nat) : takeS s (some (putS s n ++ l)) = (n, some l) := by
  have h2 := (has_iff s n).1 h
  have h3 := hs
  unfold Sp.Ok at h3
  unfold takeS putS
  by_cases ht : s.there = true
  · simp only [if_pos ht]
    rw [ints_put s.most n.toNat l (by omega) (by omega)]
    simp only [Prod.mk.injEq, and_true]
    omega
  · simp only [if_neg ht, List.nil_append, Prod.mk.injEq, and_true]
    have : ¬ 0 < s.most := by simpa [Sp.there] using ht
    omega
theorem takeS_some (s : Sp) (st : Left) (l : List Nat) (h : (takeS s st).2 = some l) : st = some (putS s (takeS s st).1 ++ l) := by
  unfold takeS putS at *
  by_cases ht : s.there = true
  · simp only [if_pos ht] at h ⊢
    rw [Int.toNat_natCast]
    exact ints_some _ _ _ h
  · simp only [if_neg ht] at h ⊢
    exact h
theorem sumT_put (on : Bool) (n : Nat) (hn : n < 2 ^ 64) (h : on = true ∨ n = 0) (l : List Nat) : sumT on (some (sumS on n ++ l)) = (n, some l) := by
  unfold sumT sumS
  cases on
  · simp only [Bool.false_eq_true, if_false, List.nil_append, Prod.mk.injEq, and_true]
    exact (h.resolve_left (by simp)).symm
  · simp only [if_true, rawS, List.length_append, Bm.bytesOf_length]
    rw [if_pos (by omega)]
    have h8 : (Bm.bytesOf n 8).length = 8 := Bm.bytesOf_length n 8
    simp only [List.take_left' h8, List.drop_left' h8, Bm.valB_bytesOf, Prod.mk.injEq, and_true]
    omega
theorem raws_some (n : Nat) (st : Left) (l : List Nat) (h : (rawS n st).2 = some l) : st = some ((rawS n st).1 ++ l) ∧ (rawS n st).1.length = n := by
  rcases st with _ | bs
  · exact absurd h (by simp [rawS])
  · by_cases hp : n ≤ bs.length
    · simp only [rawS, if_pos hp] at h ⊢
      rw [← Option.some.inj h, List.take_append_drop]
      exact ⟨rfl, by rw [List.length_take]; omega⟩
    · simp only [rawS, if_neg hp] at h
      exact absurd h (by simp)
theorem sumT_some (on : Bool) (st : Left) (l : List Nat) (hok : OkL st) (h : (sumT on st).2 = some l) : st = some (sumS on (sumT on st).1 ++ l) := by
  unfold sumT sumS at *
  cases on
  · simp only [Bool.false_eq_true, if_false] at h ⊢
    exact h
  · simp only [if_true] at h ⊢
    obtain ⟨h1, h2⟩ := raws_some 8 st l h
    have h3 := Bm.bytesOf_valB (rawS 8 st).1 (ok_raw hok).2.1
    rw [h2] at h3
    rw [h3]
    exact h1
theorem dataT_put (s : Sp) (hs : s.Ok) (d : List Nat) (h : s.has (d.length : Int) = true) : dataT s (some (dataS s d)) = (d, some []) := by
  have h2 := (has_iff s d.length).1 h
  have h3 := hs
  unfold Sp.Ok at h3
  unfold dataT dataS
  by_cases ht : s.there = true
  · simp only [if_pos ht, textS]
    rw [ints_put s.most d.length d (by omega) (by omega)]
    simp [rawS]
  · simp only [if_neg ht, Prod.mk.injEq, and_true]
    have : ¬ 0 < s.most := by simpa [Sp.there] using ht
    exact ((nil_len d).2 (by omega)).symm
theorem dataT_some (s : Sp) (st : Left) (h : (dataT s st).2 = some []) : st = some (dataS s (dataT s st).1) := by
  unfold dataT dataS at *
  by_cases ht : s.there = true
  · simp only [if_pos ht] at h ⊢
    unfold textS at h ⊢
    obtain ⟨h1, h2⟩ := raws_some _ _ _ h
    rw [List.append_nil] at h1
    have h3 := ints_some _ _ _ h1
    rw [h2]
    exact h3
  · simp only [if_neg ht] at h ⊢
    exact h
theorem ok_take {s : Sp} {st : Left} (hs : s.Ok) (h : OkL st) : OkL (takeS s st).2 := by
  unfold takeS
  split
  · exact (ok_int h (by have := hs.2.2; omega)).1
  · exact h
theorem ok_sumT {on : Bool} {st : Left} (h : OkL st) : OkL (sumT on st).2 := by
  unfold sumT
  split
  · exact (ok_raw h).1
  · exact h

theorem dec_of {b : Bdy} (hb : b.Ok) (m : Msg) (hm : m.Ok) (h : b.right m = true) : b.dec m.kind (b.bytes m) = some m := by
  obtain ⟨h1, h2, h3, h4, h5⟩ := (b.right_iff m).1 h
  have e1 := takeS_put _ hb.1 _ h1 (putS b.epoch m.epoch ++ (putS b.size m.size ++ (sumS b.sum m.sum ++ dataS b.data m.data)))
  have e2 := takeS_put _ hb.2.1 _ h2 (putS b.size m.size ++ (sumS b.sum m.sum ++ dataS b.data m.data))
  have e3 := takeS_put _ hb.2.2.1 _ h3 (sumS b.sum m.sum ++ dataS b.data m.data)
  have e4 := sumT_put b.sum m.sum hm.1 h4 (dataS b.data m.data)
  have e5 := dataT_put _ hb.2.2.2.1 _ h5
  have hmsg : b.msg m.kind (b.bytes m) = m := by
    simp only [Bdy.msg, Bdy.st4, Bdy.st3, Bdy.st2, Bdy.st1, Bdy.bytes, e1, e2, e3, e4, e5]
  have hst : b.st5 (b.bytes m) = some [] := by
    simp only [Bdy.st5, Bdy.st4, Bdy.st3, Bdy.st2, Bdy.st1, Bdy.bytes, e1, e2, e3, e4, e5]
  unfold Bdy.dec
  rw [hmsg, hst, if_pos ⟨rfl, h⟩]
theorem dec_some {b : Bdy} (hb : b.Ok) (k : Int) (s : List Nat) (m : Msg) (hs : ∀ x ∈ s, x < 256) (hl : s.length ≤ 100000000) (h : b.dec k s = some m) :
    m.kind = k ∧ b.right m = true ∧ b.bytes m = s ∧ m.Ok := by
  unfold Bdy.dec at h
  by_cases hc : b.st5 s = some [] ∧ b.right (b.msg k s) = true
  · rw [if_pos hc] at h
    have hm := Option.some.inj h
    have o0 : OkL (some s) := ⟨hs, hl⟩
    have o1 : OkL (b.st1 s) := ok_take hb.1 o0
    have o2 : OkL (b.st2 s) := ok_take hb.2.1 o1
    have o3 : OkL (b.st3 s) := ok_take hb.2.2.1 o2
    have o4 : OkL (b.st4 s) := ok_sumT o3
    have s5 := dataT_some b.data (b.st4 s) hc.1
    have s4 := sumT_some b.sum (b.st3 s) _ o3 s5
    have s3 := takeS_some b.size (b.st2 s) _ s4
    have s2 := takeS_some b.epoch (b.st1 s) _ s3
    have s1 := takeS_some b.next (some s) _ s2
    subst hm
    refine ⟨rfl, hc.2, (Option.some.inj s1).symm, ?_, ?_⟩
    · show (sumT b.sum (b.st3 s)).1 < 2 ^ 64
      unfold sumT
      split
      · have h1 := Bm.valB_lt (rawS 8 (b.st3 s)).1 (ok_raw o3).2.1
        have h2 : 256 ^ (rawS 8 (b.st3 s)).1.length ≤ 256 ^ 8 := Nat.pow_le_pow_right (by omega) (ok_raw o3).2.2
        have h3 : (256 : Nat) ^ 8 = 2 ^ 64 := by decide
        show Bm.valB (rawS 8 (b.st3 s)).1 < 2 ^ 64
        omega
      · exact (by decide : (0 : Nat) < 2 ^ 64)
    · show ∀ x ∈ (dataT b.data (b.st4 s)).1, x < 256
      unfold dataT
      split
      · exact (ok_raw (ok_int o4 (by have := hb.2.2.2.1.2.2; omega)).1).2.1
      · simp
  · rw [if_neg hc] at h; exact absurd h (by simp)
/-- Decode of Encode is the same. -/
theorem decP_of (m : Msg) (hm : m.Ok) (h : rightM m = true) : decP m.kind (bytesM m) = some m := by
  obtain ⟨b, hb, hr⟩ := right_some h
  unfold decP bytesM
  rw [hb]
  exact dec_of (body_ok hb) m hm hr
/-- What is decoded has just this frame. -/
theorem decP_some (k : Int) (s : List Nat) (m : Msg) (hs : ∀ x ∈ s, x < 256) (hl : s.length ≤ 100000000) (h : decP k s = some m) : m.kind = k ∧ rightM m = true ∧ bytesM m = s ∧ m.Ok := by
  unfold decP at h
  rcases hb : bodyK k with _ | b
  · rw [hb] at h; exact absurd h (by simp)
  · rw [hb] at h
    obtain ⟨h1, h2, h3, h4⟩ := dec_some (body_ok hb) k s m hs hl h
    have hb2 : bodyK m.kind = some b := by rw [h1]; exact hb
    exact ⟨h1, right_of hb2 h2, (bytes_of hb2).trans h3, h4⟩

/-- What the document's calls read. -/
def numR (s : List Nat) : Int × List Nat := if (Bm.firstG s).2 = 0 ∨ 1073741824 < (Bm.firstG s).1 then (-1, s) else (((Bm.firstG s).1 : Int), s.drop (Bm.firstG s).2)
def numIf (on : Bool) (s : List Nat) : Int × List Nat := if on = true then numR s else (0, s)
def onN (k : Int) : Bool := decide (k = 1 ∨ k = 2 ∨ k = 6 ∨ k = 7 ∨ k = 8)
def onE (k : Int) : Bool := decide (1 ≤ k ∧ k ≤ 5)
def onZ (k : Int) : Bool := decide (k = 8 ∨ k = 9)
def onS (k : Int) : Bool := decide (k = 8)
def onD (k : Int) : Bool := decide (k = 3 ∨ k = 6 ∨ k = 9)
def sumIf (on : Bool) (s : List Nat) : Nat × List Nat := if on = true then (Bm.valB (s.take 8), s.drop 8) else (0, s)
def datIf (on : Bool) (s : List Nat) : List Nat × List Nat := if on = true then ((numR s).2, []) else ([], s)
def r1 (k : Int) (s : List Nat) : List Nat := (numIf (onN k) s).2
def r2 (k : Int) (s : List Nat) : List Nat := (numIf (onE k) (r1 k s)).2
def r3 (k : Int) (s : List Nat) : List Nat := (numIf (onZ k) (r2 k s)).2
def r4 (k : Int) (s : List Nat) : List Nat := (sumIf (onS k) (r3 k s)).2
def r5 (k : Int) (s : List Nat) : List Nat := (datIf (onD k) (r4 k s)).2
def msgR (k : Int) (s : List Nat) : Msg :=
  ⟨k, (numIf (onN k) s).1, (numIf (onE k) (r1 k s)).1, (numIf (onZ k) (r2 k s)).1, (sumIf (onS k) (r3 k s)).1, (datIf (onD k) (r4 k s)).1⟩
def decR (k : Int) (s : List Nat) : Option Msg :=
  if onS k = true ∧ (r3 k s).length < 8 then none
  else if onD k = true ∧ ((numR (r4 k s)).1 < 0 ∨ (numR (r4 k s)).1 ≠ ((numR (r4 k s)).2.length : Int)) then none
  else if r5 k s ≠ [] ∨ rightM (msgR k s) = false then none
  else some (msgR k s)
theorem on_same {k : Int} {b : Bdy} (h : bodyK k = some b) : onN k = b.next.there ∧ onE k = b.epoch.there ∧ onZ k = b.size.there ∧ onS k = b.sum ∧ onD k = b.data.there := by
  by_cases hk : k < 1 ∨ 10 < k
  · rw [body_none hk] at h; exact absurd h (by simp)
  rcases kind_cases k hk with rfl | rfl | rfl | rfl | rfl | rfl | rfl | rfl | rfl | rfl
  all_goals
    simp [bodyK] at h
    subst h
    simp [onN, onE, onZ, onS, onD, Sp.there, spN, spE0, spE, spS, zsp, zbd]
theorem numR_put (v : Nat) (l : List Nat) (h : v ≤ 1073741824) : numR (Bm.grp v ++ l) = ((v : Int), l) := by
  have h1 := Bm.firstG_grp v l (by omega)
  have h2 := Bm.grp_pos v (by omega)
  unfold numR
  rw [h1, if_neg (by simp only []; omega)]
  simp
theorem numR_some (s : List Nat) (h : 0 ≤ (numR s).1) : s = Bm.grp (numR s).1.toNat ++ (numR s).2 := by
  unfold numR at h ⊢
  by_cases hc : (Bm.firstG s).2 = 0 ∨ 1073741824 < (Bm.firstG s).1
  · rw [if_pos hc] at h; exact absurd h (by simp)
  · rw [if_neg hc] at h ⊢
    obtain ⟨_, h2, _⟩ := Bm.firstG_some s (Bm.firstG s).1 (Bm.firstG s).2 (by omega) rfl
    simp only [Int.toNat_natCast]
    rw [← h2, List.take_append_drop]
theorem numIf_put (s : Sp) (hs : s.Ok) (n : Int) (h : s.has n = true) (l : List Nat) : numIf s.there (putS s n ++ l) = (n, l) := by
  have h2 := (has_iff s n).1 h
  have h3 := hs
  unfold Sp.Ok at h3
  unfold numIf putS
  by_cases ht : s.there = true
  · simp only [if_pos ht]
    rw [numR_put n.toNat l (by omega)]
    simp only [Prod.mk.injEq, and_true]
    omega
  · simp only [if_neg ht, List.nil_append, Prod.mk.injEq, and_true]
    have : ¬ 0 < s.most := by simpa [Sp.there] using ht
    omega
theorem numIf_some (s : Sp) (l : List Nat) (h : 0 ≤ (numIf s.there l).1) : l = putS s (numIf s.there l).1 ++ (numIf s.there l).2 := by
  unfold numIf putS at *
  by_cases ht : s.there = true
  · simp only [if_pos ht] at h ⊢
    exact numR_some l h
  · simp only [if_neg ht, List.nil_append]
theorem has_pos {s : Sp} (hs : s.Ok) {n : Int} (h : s.has n = true) : 0 ≤ n := by
  have h2 := (has_iff s n).1 h
  have h3 := hs.1
  omega
theorem decR_of (m : Msg) (hm : m.Ok) (h : rightM m = true) : decR m.kind (bytesM m) = some m := by
  obtain ⟨b, hb, hr⟩ := right_some h
  rw [bytes_of hb]
  obtain ⟨o1, o2, o3, o4, o5⟩ := on_same hb
  have hk := body_ok hb
  obtain ⟨h1, h2, h3, h4, h5⟩ := (b.right_iff m).1 hr
  have e1 := numIf_put _ hk.1 _ h1 (putS b.epoch m.epoch ++ (putS b.size m.size ++ (sumS b.sum m.sum ++ dataS b.data m.data)))
  have e2 := numIf_put _ hk.2.1 _ h2 (putS b.size m.size ++ (sumS b.sum m.sum ++ dataS b.data m.data))
  have e3 := numIf_put _ hk.2.2.1 _ h3 (sumS b.sum m.sum ++ dataS b.data m.data)
  rw [← o1] at e1
  rw [← o2] at e2
  rw [← o3] at e3
  have s1 : r1 m.kind (b.bytes m) = putS b.epoch m.epoch ++ (putS b.size m.size ++ (sumS b.sum m.sum ++ dataS b.data m.data)) := by unfold r1 Bdy.bytes; rw [e1]
  have s2 : r2 m.kind (b.bytes m) = putS b.size m.size ++ (sumS b.sum m.sum ++ dataS b.data m.data) := by unfold r2; rw [s1, e2]
  have s3 : r3 m.kind (b.bytes m) = sumS b.sum m.sum ++ dataS b.data m.data := by unfold r3; rw [s2, e3]
  have e4 : sumIf (onS m.kind) (sumS b.sum m.sum ++ dataS b.data m.data) = (m.sum, dataS b.data m.data) := by
    rw [o4]
    unfold sumIf sumS
    cases hb4 : b.sum
    · simp only [Bool.false_eq_true, if_false, List.nil_append, Prod.mk.injEq, and_true]
      rw [hb4] at h4
      exact (h4.resolve_left (by simp)).symm
    · have h8 : (Bm.bytesOf m.sum 8).length = 8 := Bm.bytesOf_length m.sum 8
      simp only [if_true, List.take_left' h8, List.drop_left' h8, Bm.valB_bytesOf, Prod.mk.injEq, and_true]
      have := hm.1
      omega
  have s4 : r4 m.kind (b.bytes m) = dataS b.data m.data := by unfold r4; rw [s3, e4]
  have hd := (has_iff _ _).1 h5
  have hd7 := hk.2.2.2.2
  have e5 : datIf (onD m.kind) (dataS b.data m.data) = (m.data, []) := by
    rw [o5]
    unfold datIf dataS
    by_cases ht : b.data.there = true
    · simp only [if_pos ht]
      rw [numR_put _ _ (by omega)]
    · simp only [if_neg ht, Prod.mk.injEq, and_true]
      have : ¬ 0 < b.data.most := by simpa [Sp.there] using ht
      exact ((nil_len m.data).2 (by omega)).symm
  have s5 : r5 m.kind (b.bytes m) = [] := by unfold r5; rw [s4, e5]
  have hmsg : msgR m.kind (b.bytes m) = m := by
    unfold msgR
    rw [s4, s3, s2, s1, e5, e4, e3, e2]
    unfold Bdy.bytes
    rw [e1]
  unfold decR
  rw [if_neg, if_neg, if_neg, hmsg]
  · rw [s5, hmsg, h]; simp
  · rw [s4, o5]
    rintro ⟨ht, h9⟩
    unfold dataS at h9
    rw [if_pos ht, numR_put _ _ (by omega)] at h9
    simp at h9
    omega
  · rw [s3, o4]
    rintro ⟨ht, h9⟩
    unfold sumS at h9
    rw [if_pos ht, List.length_append, Bm.bytesOf_length] at h9
    omega
theorem numR_mem (s : List Nat) : ∀ x ∈ (numR s).2, x ∈ s := by
  intro x hx
  unfold numR at hx
  split at hx
  · exact hx
  · exact List.mem_of_mem_drop hx
theorem decR_some (k : Int) (s : List Nat) (m : Msg) (hs : ∀ x ∈ s, x < 256) (h : decR k s = some m) : m.kind = k ∧ rightM m = true ∧ bytesM m = s ∧ m.Ok := by
  unfold decR at h
  by_cases c1 : onS k = true ∧ (r3 k s).length < 8
  · rw [if_pos c1] at h; exact absurd h (by simp)
  rw [if_neg c1] at h
  by_cases c2 : onD k = true ∧ ((numR (r4 k s)).1 < 0 ∨ (numR (r4 k s)).1 ≠ ((numR (r4 k s)).2.length : Int))
  · rw [if_pos c2] at h; exact absurd h (by simp)
  rw [if_neg c2] at h
  by_cases c3 : r5 k s ≠ [] ∨ rightM (msgR k s) = false
  · rw [if_pos c3] at h; exact absurd h (by simp)
  rw [if_neg c3] at h
  have hm := Option.some.inj h
  have hr : rightM (msgR k s) = true := by
    rcases hx : rightM (msgR k s) with _ | _
    · exact absurd (.inr hx) c3
    · rfl
  have h5 : r5 k s = [] := Decidable.byContradiction fun hx => c3 (.inl hx)
  obtain ⟨b, hb, hrb⟩ := right_some hr
  have hb' : bodyK k = some b := hb
  obtain ⟨o1, o2, o3, o4, o5⟩ := on_same hb'
  have hk := body_ok hb
  obtain ⟨h1, h2, h3, h4, h5'⟩ := (b.right_iff _).1 hrb
  have p1 : 0 ≤ (numIf (onN k) s).1 := has_pos hk.1 h1
  have p2 : 0 ≤ (numIf (onE k) (r1 k s)).1 := has_pos hk.2.1 h2
  have p3 : 0 ≤ (numIf (onZ k) (r2 k s)).1 := has_pos hk.2.2.1 h3
  rw [o1] at p1
  rw [o2] at p2
  rw [o3] at p3
  have q1 := numIf_some b.next s p1
  have q2 := numIf_some b.epoch (r1 k s) p2
  have q3 := numIf_some b.size (r2 k s) p3
  have lt1 : ∀ x ∈ r1 k s, x < 256 := by
    intro x hx
    unfold r1 at hx
    rw [o1] at hx
    exact hs x (by rw [q1]; exact List.mem_append_right _ hx)
  have lt2 : ∀ x ∈ r2 k s, x < 256 := by
    intro x hx
    unfold r2 at hx
    rw [o2] at hx
    exact lt1 x (by rw [q2]; exact List.mem_append_right _ hx)
  have lt3 : ∀ x ∈ r3 k s, x < 256 := by
    intro x hx
    unfold r3 at hx
    rw [o3] at hx
    exact lt2 x (by rw [q3]; exact List.mem_append_right _ hx)
  have q4 : r3 k s = sumS b.sum (sumIf (onS k) (r3 k s)).1 ++ r4 k s := by
    unfold r4
    rw [o4] at c1 ⊢
    unfold sumIf sumS
    by_cases ht : b.sum = true
    · simp only [if_pos ht]
      have h8 : 8 ≤ (r3 k s).length := Nat.le_of_not_lt fun hx => c1 ⟨ht, hx⟩
      have h9 := Bm.bytesOf_valB ((r3 k s).take 8) (take_lt lt3 8)
      rw [List.length_take, Nat.min_eq_left h8] at h9
      rw [h9, List.take_append_drop]
    · simp only [if_neg ht, List.nil_append]
  have q5 : r4 k s = dataS b.data (datIf (onD k) (r4 k s)).1 := by
    unfold r5 at h5
    rw [o5] at c2 h5 ⊢
    unfold datIf dataS at *
    by_cases ht : b.data.there = true
    · simp only [if_pos ht]
      have h6 : 0 ≤ (numR (r4 k s)).1 := Int.not_lt.1 fun hx => c2 ⟨ht, .inl hx⟩
      have h7 : (numR (r4 k s)).1 = ((numR (r4 k s)).2.length : Int) := Decidable.byContradiction fun hx => c2 ⟨ht, .inr hx⟩
      have h8 := numR_some _ h6
      rw [h7, Int.toNat_natCast] at h8
      exact h8
    · simp only [if_neg ht] at h5 ⊢
      exact h5
  have lt4 : ∀ x ∈ r4 k s, x < 256 := by
    intro x hx
    exact lt3 x (by rw [q4]; exact List.mem_append_right _ hx)
  have hmok : (msgR k s).Ok := by
    constructor
    · show (sumIf (onS k) (r3 k s)).1 < 2 ^ 64
      unfold sumIf
      split
      · have h1 := Bm.valB_lt ((r3 k s).take 8) (take_lt lt3 8)
        have h2 : 256 ^ ((r3 k s).take 8).length ≤ 256 ^ 8 := Nat.pow_le_pow_right (by omega) (by rw [List.length_take]; omega)
        have h3 : (256 : Nat) ^ 8 = 2 ^ 64 := by decide
        show Bm.valB ((r3 k s).take 8) < 2 ^ 64
        omega
      · exact (by decide : (0 : Nat) < 2 ^ 64)
    · show ∀ x ∈ (datIf (onD k) (r4 k s)).1, x < 256
      unfold datIf
      split
      · exact fun x hx => lt4 x (numR_mem _ x hx)
      · simp
  subst hm
  refine ⟨rfl, hr, ?_, hmok⟩
  rw [bytes_of hb]
  show putS b.next (numIf (onN k) s).1 ++ (putS b.epoch (numIf (onE k) (r1 k s)).1 ++ (putS b.size (numIf (onZ k) (r2 k s)).1 ++ (sumS b.sum (sumIf (onS k) (r3 k s)).1 ++ dataS b.data (datIf (onD k) (r4 k s)).1))) = s
  rw [← q5, ← q4]
  have q3' : putS b.size (numIf (onZ k) (r2 k s)).1 ++ r3 k s = r2 k s := by unfold r3; rw [o3]; exact q3.symm
  have q2' : putS b.epoch (numIf (onE k) (r1 k s)).1 ++ r2 k s = r1 k s := by unfold r2; rw [o2]; exact q2.symm
  have q1' : putS b.next (numIf (onN k) s).1 ++ r1 k s = s := by unfold r1; rw [o1]; exact q1.symm
  rw [q3', q2', q1']
/-- Both read alike. -/
theorem dec_same (k : Int) (s : List Nat) (hs : ∀ x ∈ s, x < 256) (hl : s.length ≤ 100000000) : decR k s = decP k s := by
  rcases hp : decP k s with _ | m
  · rcases hr : decR k s with _ | m
    · rfl
    · obtain ⟨h1, h2, h3, h4⟩ := decR_some k s m hs hr
      have := decP_of m h4 h2
      rw [h1, h3, hp] at this
      exact absurd this (by simp)
  · obtain ⟨h1, h2, h3, h4⟩ := decP_some k s m hs hl hp
    have := decR_of m h4 h2
    rw [h1, h3] at this
    exact this
end Go.Proofs.Ytfopnbfaaikghaa
