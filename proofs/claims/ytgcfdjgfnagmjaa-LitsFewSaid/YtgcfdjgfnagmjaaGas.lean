/-
  strings.Repeat at this translation, by the shelf's contract: one byte again and again; nothing, again and again. Conditions: as each theorem's premises say (up to a thousand million times).
-/
import Derived.Test.YtgcfdjgfnagmjaaGac
import Derived.Shelf.Strings.Repeat
namespace Go.Proofs.Ytgcfdjgfnagmjaa
open Go.Shelf Go.RowKit
def rpRen : Go.Shelf.Ren := ⟨fun | 99 => 32 | 105 => 19 | 165 => 33 | 166 => 34 | 169 => 36 | 170 => 35 | 206 => 53 | 212 => 31 | 240 => 54 | 241 => 55 | 263 => 51 | 264 => 52 | 276 => 73 | 277 => 74 | n => n, fun | 0 => 0 | 3 => 3 | 4 => 4 | 5 => 5 | 9 => 9 | 20 => 20 | 37 => 32 | 46 => 59 | 51 => 82 | 53 => 36 | 70 => 63 | 72 => 65 | 75 => 68 | 76 => 69 | 80 => 38 | 109 => 60 | 127 => 90 | 146 => 86 | 148 => 88 | 164 => 118 | n => n, fun n => n⟩
theorem rpLays : Lays.n105 Try.prog rpRen := {
  mixed := by kernel_rfl
  f99 := Try.func32.trans (congrArg some (by kernel_rfl))
  f105 := Try.func19.trans (congrArg some (by kernel_rfl))
  f165 := Try.func33.trans (congrArg some (by kernel_rfl))
  f166 := Try.func34.trans (congrArg some (by kernel_rfl))
  f169 := Try.func36.trans (congrArg some (by kernel_rfl))
  f170 := Try.func35.trans (congrArg some (by kernel_rfl))
  f206 := Try.func53.trans (congrArg some (by kernel_rfl))
  f212 := Try.func31.trans (congrArg some (by kernel_rfl))
  f240 := Try.func54.trans (congrArg some (by kernel_rfl))
  f241 := Try.func55.trans (congrArg some (by kernel_rfl))
  f263 := Try.func51.trans (congrArg some (by kernel_rfl))
  f264 := Try.func52.trans (congrArg some (by kernel_rfl))
  f276 := Try.func73.trans (congrArg some (by kernel_rfl))
  f277 := Try.func74.trans (congrArg some (by kernel_rfl))
  t0 := Try.underlying0
  a0 := Try.isAgg0
  z0 := Try.sizeOf0
  v0 := Try.zeroValue0
  t3 := Try.underlying3
  a3 := Try.isAgg3
  z3 := Try.sizeOf3
  v3 := Try.zeroValue3
  t4 := Try.underlying4
  a4 := Try.isAgg4
  z4 := Try.sizeOf4
  v4 := Try.zeroValue4
  t5 := Try.underlying5
  a5 := Try.isAgg5
  z5 := Try.sizeOf5
  v5 := Try.zeroValue5
  t9 := Try.underlying9
  a9 := Try.isAgg9
  z9 := Try.sizeOf9
  v9 := Try.zeroValue9
  t20 := Try.underlying20
  a20 := Try.isAgg20
  z20 := Try.sizeOf20
  v20 := Try.zeroValue20
  t37 := Try.underlying32
  a37 := Try.isAgg32
  z37 := Try.sizeOf32
  v37 := Try.zeroValue32
  t46 := Try.underlying59
  a46 := Try.isAgg59
  z46 := Try.sizeOf59
  v46 := Try.zeroValue59
  t51 := Try.underlying82
  a51 := Try.isAgg82
  z51 := Try.sizeOf82
  v51 := Try.zeroValue82
  t53 := Try.underlying36
  a53 := Try.isAgg36
  z53 := Try.sizeOf36
  v53 := Try.zeroValue36
  t70 := Try.underlying63
  a70 := Try.isAgg63
  z70 := Try.sizeOf63
  v70 := Try.zeroValue63
  t72 := Try.underlying65
  a72 := Try.isAgg65
  z72 := Try.sizeOf65
  v72 := Try.zeroValue65
  t75 := Try.underlying68
  a75 := Try.isAgg68
  z75 := Try.sizeOf68
  v75 := Try.zeroValue68
  t76 := Try.underlying69
  a76 := Try.isAgg69
  z76 := Try.sizeOf69
  v76 := Try.zeroValue69
  t109 := Try.underlying60
  a109 := Try.isAgg60
  z109 := Try.sizeOf60
  v109 := Try.zeroValue60
  t127 := Try.underlying90
  a127 := Try.isAgg90
  z127 := Try.sizeOf90
  v127 := Try.zeroValue90
  t146 := Try.underlying86
  a146 := Try.isAgg86
  z146 := Try.sizeOf86
  v146 := Try.zeroValue86
  t148 := Try.underlying88
  a148 := Try.isAgg88
  z148 := Try.sizeOf88
  v148 := Try.zeroValue88
  t164 := Try.underlying118
  a164 := Try.isAgg118
  z164 := Try.sizeOf118
  v164 := Try.zeroValue118 }
theorem rpExtra : Builder.Extra Try.prog rpRen := {
  sizeBuilder := by kernel_rfl
  liesBuilder := by kernel_rfl
  t5 := Try.underlying5
  a5 := Try.isAgg5
  z5 := Try.sizeOf5
  v5 := Try.zeroValue5
  infoByte := by kernel_rfl
  cellsByte := by kernel_rfl
  sizeByte := by kernel_rfl
  neB5 := by decide }
theorem repeat_one (x : UInt8) : ∀ n : Nat, Lib.repeatL [x] n = List.replicate n x
  | 0 => rfl
  | n + 1 => by
    rw [List.replicate_succ, ← repeat_one x n]
    rfl
theorem repeat_nil : ∀ n : Nat, Lib.repeatL [] n = []
  | 0 => rfl
  | n + 1 => by
    have := repeat_nil n
    rw [Lib.repeatL, this]
    rfl
theorem srepeat_one (x n : Nat) (w : World) (hn : n ≤ 1000000000) :
    Calls Try.prog 19 #[.string (strOf [x]), .int .i64 (n : Int)] w fun e w' => e = .returned (.string (strOf (List.replicate n x))) ∧ Below w.heap.size w w' := by
  have h : Calls Try.prog 19 #[.string (strOf [x]), .int .i64 (n : Int)] w _ := Any.strings_Repeat rpLays rpExtra (strOf [x]) n w (by omega) (by rw [strOf_size]; simp; omega)
  refine h.mono fun e w' ⟨he, hb⟩ => ⟨?_, hb⟩
  rw [he, show (strOf [x]).data.toList = [UInt8.ofNat x] from rfl, repeat_one]
  unfold strOf
  rw [List.map_replicate]
theorem srepeat_nil (n : Nat) (w : World) (hn : n ≤ 1000000000) :
    Calls Try.prog 19 #[.string (strOf []), .int .i64 (n : Int)] w fun e w' => e = .returned (.string (strOf [])) ∧ Below w.heap.size w w' := by
  have h : Calls Try.prog 19 #[.string (strOf []), .int .i64 (n : Int)] w _ := Any.strings_Repeat rpLays rpExtra (strOf []) n w (by omega) (by rw [strOf_size]; simp)
  refine h.mono fun e w' ⟨he, hb⟩ => ⟨?_, hb⟩
  rw [he, show (strOf []).data.toList = [] from rfl, repeat_nil]
  rfl
end Go.Proofs.Ytgcfdjgfnagmjaa
