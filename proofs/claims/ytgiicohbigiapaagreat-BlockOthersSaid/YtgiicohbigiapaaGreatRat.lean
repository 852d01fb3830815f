/- Contracts, and what they rest on. Conditions: the theorems' premises. -/
import Derived.Test.YtgiicohbigiapaaGreatRas
import Derived.Test.YtgiicohbigiapaaGreatRaj
import Derived.Deep.RegionHeld3
set_option maxHeartbeats 4000000
set_option maxRecDepth 100000
open Go.Proofs.Tryz Go.Proofs.YtgiicohbigiapaaGreat.Bm
namespace Go.Proofs.YtgiicohbigiapaaGreat
open Go.RowKit
theorem xJ(l:List Nat):jw (l.map fun n:Nat=>(n:Int))↔bC l:=by
 have e:(l.map fun n:Nat=>(n:Int)).map Int.toNat=l:=by
  rw[List.map_map];conv=>rhs;rw[←List.map_id l]
  exact List.map_congr_left fun x _=>by simp
 unfold jw;rw[e];constructor
 ·exact fun h=>h.2
 ·intro h;refine⟨⟨by rw[List.length_map];exact h.1,fun x hx=>?_⟩,h⟩;obtain⟨n,hn,rfl⟩:=List.mem_map.1 hx;have:=h.2.1 n hn;omega
def aes:Prop:=∀(w:World) (A:Option Addr) (c:Nat) (l:List Int),l.length≤1000000000→l.length≤c→(∀x∈l,bM x)→Reads w A (lQ l) →
 Calls prog 107 #[.slice A l.length c] w fun e w'=>e=.returned (afN (if jw l then some (bS (aI (l.map Int.toNat)))else none))∧Below w.heap.size w w'
def UQ(w':World)(b:Nat)(bs:List Nat)(e:Ending):Option (List Nat×Nat)→Prop
 | none=>∃A c,e=.returned (.tuple #[.slice A 0 c,.bool false])
 | some t=>∃A c,e=.returned (.tuple #[.slice A t.1.length c,.bool true])∧Reads w' A (aM t.1)∧CR w' b (some (bs.drop t.2))
def aao:Prop:=∀(w:World) (b:Nat) (bs:List Nat),bs.length≤10000→(∀x∈bs,x<256)→CR w b (some bs) →
 Calls prog 144 #[.pointer (some ⟨b,0,none⟩)] w fun e w'=>UQ w' b bs e (jf bs)∧w.grownBy w' (some b)
set_option linter.unusedVariables false
theorem ahT(l:List Nat)(i j:Nat)(h:i≤j)(h2:j≤l.length)(W:World):(Instr.slice 9 (.string (strOf l)) (some (.int .i64 (i:Int))) (some (.int .i64 (j:Int))) none).run prog W=.ok (.string (strOf ((l.take j).drop i))) W:=by
 rw[run_slice_string W 9 _ .i64 .i64 i j underlying9 (by omega) (by omega) (by rw[ay];omega),Int.toNat_natCast,Int.toNat_natCast,iO]
end Go.Proofs.YtgiicohbigiapaaGreat
