/-
  strings.Repeat at this translation, by the shelf's contract: one byte again and again; nothing, again and again. Conditions: as each theorem's premises say (up to a thousand million times).
-/
import Derived.Test.YtgcfdjgfnagmjaaGreatGac
import Derived.Shelf.Strings.Repeat
namespace Go.Proofs.YtgcfdjgfnagmjaaGreat
open Go.Shelf Go.RowKit
def rpRen : Go.Shelf.Ren := ⟨fun | 99 => 45 | 105 => 26 | 165 => 46 | 166 => 47 | 169 => 49 | 170 => 48 | 206 => 71 | 212 => 44 | 240 => 72 | 241 => 73 | 263 => 69 | 264 => 70 | 276 => 91 | 277 => 92 | n => n, fun | 0 => 0 | 3 => 3 | 4 => 4 | 5 => 5 | 9 => 9 | 20 => 20 | 37 => 35 | 46 => 73 | 51 => 92 | 53 => 39 | 70 => 76 | 72 => 78 | 75 => 81 | 76 => 82 | 80 => 30 | 109 => 74 | 127 => 101 | 146 => 97 | 148 => 99 | 164 => 129 | n => n, fun n => n⟩
theorem rpLays : Lays.n105 Tryz.prog rpRen := {
  mixed := by kernel_rfl
  f99 := Tryz.func45.trans (congrArg some (by kernel_rfl))
  f105 := Tryz.func26.trans (congrArg some (by kernel_rfl))
  f165 := Tryz.func46.trans (congrArg some (by kernel_rfl))
  f166 := Tryz.func47.trans (congrArg some (by kernel_rfl))
  f169 := Tryz.func49.trans (congrArg some (by kernel_rfl))
  f170 := Tryz.func48.trans (congrArg some (by kernel_rfl))
  f206 := Tryz.func71.trans (congrArg some (by kernel_rfl))
  f212 := Tryz.func44.trans (congrArg some (by kernel_rfl))
  f240 := Tryz.func72.trans (congrArg some (by kernel_rfl))
  f241 := Tryz.func73.trans (congrArg some (by kernel_rfl))
  f263 := Tryz.func69.trans (congrArg some (by kernel_rfl))
  f264 := Tryz.func70.trans (congrArg some (by kernel_rfl))
  f276 := Tryz.func91.trans (congrArg some (by kernel_rfl))
  f277 := Tryz.func92.trans (congrArg some (by kernel_rfl))
  t0 := Tryz.underlying0
  a0 := Tryz.isAgg0
  z0 := Tryz.sizeOf0
  v0 := Tryz.zeroValue0
  t3 := Tryz.underlying3
  a3 := Tryz.isAgg3
  z3 := Tryz.sizeOf3
  v3 := Tryz.zeroValue3
  t4 := Tryz.underlying4
  a4 := Tryz.isAgg4
  z4 := Tryz.sizeOf4
  v4 := Tryz.zeroValue4
  t5 := Tryz.underlying5
  a5 := Tryz.isAgg5
  z5 := Tryz.sizeOf5
  v5 := Tryz.zeroValue5
  t9 := Tryz.underlying9
  a9 := Tryz.isAgg9
  z9 := Tryz.sizeOf9
  v9 := Tryz.zeroValue9
  t20 := Tryz.underlying20
  a20 := Tryz.isAgg20
  z20 := Tryz.sizeOf20
  v20 := Tryz.zeroValue20
  t37 := Tryz.underlying35
  a37 := Tryz.isAgg35
  z37 := Tryz.sizeOf35
  v37 := Tryz.zeroValue35
  t46 := Tryz.underlying73
  a46 := Tryz.isAgg73
  z46 := Tryz.sizeOf73
  v46 := Tryz.zeroValue73
  t51 := Tryz.underlying92
  a51 := Tryz.isAgg92
  z51 := Tryz.sizeOf92
  v51 := Tryz.zeroValue92
  t53 := Tryz.underlying39
  a53 := Tryz.isAgg39
  z53 := Tryz.sizeOf39
  v53 := Tryz.zeroValue39
  t70 := Tryz.underlying76
  a70 := Tryz.isAgg76
  z70 := Tryz.sizeOf76
  v70 := Tryz.zeroValue76
  t72 := Tryz.underlying78
  a72 := Tryz.isAgg78
  z72 := Tryz.sizeOf78
  v72 := Tryz.zeroValue78
  t75 := Tryz.underlying81
  a75 := Tryz.isAgg81
  z75 := Tryz.sizeOf81
  v75 := Tryz.zeroValue81
  t76 := Tryz.underlying82
  a76 := Tryz.isAgg82
  z76 := Tryz.sizeOf82
  v76 := Tryz.zeroValue82
  t109 := Tryz.underlying74
  a109 := Tryz.isAgg74
  z109 := Tryz.sizeOf74
  v109 := Tryz.zeroValue74
  t127 := Tryz.underlying101
  a127 := Tryz.isAgg101
  z127 := Tryz.sizeOf101
  v127 := Tryz.zeroValue101
  t146 := Tryz.underlying97
  a146 := Tryz.isAgg97
  z146 := Tryz.sizeOf97
  v146 := Tryz.zeroValue97
  t148 := Tryz.underlying99
  a148 := Tryz.isAgg99
  z148 := Tryz.sizeOf99
  v148 := Tryz.zeroValue99
  t164 := Tryz.underlying129
  a164 := Tryz.isAgg129
  z164 := Tryz.sizeOf129
  v164 := Tryz.zeroValue129 }
theorem rpExtra : Builder.Extra Tryz.prog rpRen := {
  sizeBuilder := by kernel_rfl
  liesBuilder := by kernel_rfl
  t5 := Tryz.underlying5
  a5 := Tryz.isAgg5
  z5 := Tryz.sizeOf5
  v5 := Tryz.zeroValue5
  infoByte := by kernel_rfl
  cellsByte := by kernel_rfl
  sizeByte := by kernel_rfl
  neB5 := by decide }
theorem repeat_one (x : UInt8) : ∀ n : Nat, Lib.repeatL [x] n = List.replicate n x
  | 0 => rfl
  | n + 1 => by
    rw [List.replicate_succ, ← repeat_one x n]
    rfl
theorem repeat_nil : ∀ n : Nat, Lib.repeatL [] n = []
  | 0 => rfl
  | n + 1 => by
    have := repeat_nil n
    rw [Lib.repeatL, this]
    rfl
theorem srepeat_one (x n : Nat) (w : World) (hn : n ≤ 1000000000) :
    Calls Tryz.prog 26 #[.string (strOf [x]), .int .i64 (n : Int)] w fun e w' => e = .returned (.string (strOf (List.replicate n x))) ∧ Below w.heap.size w w' := by
  have h : Calls Tryz.prog 26 #[.string (strOf [x]), .int .i64 (n : Int)] w _ := Any.strings_Repeat rpLays rpExtra (strOf [x]) n w (by omega) (by rw [strOf_size]; simp; omega)
  refine h.mono fun e w' ⟨he, hb⟩ => ⟨?_, hb⟩
  rw [he, show (strOf [x]).data.toList = [UInt8.ofNat x] from rfl, repeat_one]
  unfold strOf
  rw [List.map_replicate]
theorem srepeat_nil (n : Nat) (w : World) (hn : n ≤ 1000000000) :
    Calls Tryz.prog 26 #[.string (strOf []), .int .i64 (n : Int)] w fun e w' => e = .returned (.string (strOf [])) ∧ Below w.heap.size w w' := by
  have h : Calls Tryz.prog 26 #[.string (strOf []), .int .i64 (n : Int)] w _ := Any.strings_Repeat rpLays rpExtra (strOf []) n w (by omega) (by rw [strOf_size]; simp)
  refine h.mono fun e w' ⟨he, hb⟩ => ⟨?_, hb⟩
  rw [he, show (strOf []).data.toList = [] from rfl, repeat_nil]
  rfl
end Go.Proofs.YtgcfdjgfnagmjaaGreat
