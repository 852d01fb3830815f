/- Contracts, and what they rest on. Conditions: the theorems' premises. -/
import Derived.Test.YtgiicohbigiapaaGreatYar
import Derived.Deep.RegionHeld3
set_option maxHeartbeats 4000000
set_option maxRecDepth 100000
open Go.Proofs.Tryz Go.Proofs.YtgiicohbigiapaaGreat.Bm
namespace Go.Proofs.YtgiicohbigiapaaGreat
open Go.RowKit
theorem wZ(l:List Nat):jl (l.map fun n:Nat=>(n:Int))↔bC l:=by
 have e:(l.map fun n:Nat=>(n:Int)).map Int.toNat=l:=by
  rw[List.map_map];conv=>rhs;rw[←List.map_id l]
  exact List.map_congr_left fun x _=>by simp
 unfold jl;rw[e];constructor
 ·exact fun h=>h.2
 ·intro h;refine⟨⟨by rw[List.length_map];exact h.1,fun x hx=>?_⟩,h⟩;obtain⟨n,hn,rfl⟩:=List.mem_map.1 hx;have:=h.2.1 n hn;omega
def adL:Prop:=∀(w:World) (A:Option Addr) (c:Nat) (l:List Int),l.length≤1000000000→l.length≤c→(∀x∈l,bN x)→Reads w A (lI l) →
 Calls prog 107 #[.slice A l.length c] w fun e w'=>e=.returned (afi (if jl l then some (bQ (aI (l.map Int.toNat)))else none))∧Below w.heap.size w w'
def Ul(w':World)(b:Nat)(bs:List Nat)(e:Ending):Option (List Nat×Nat)→Prop
 | none=>∃A c,e=.returned (.tuple #[.slice A 0 c,.bool false])
 | some t=>∃A c,e=.returned (.tuple #[.slice A t.1.length c,.bool true])∧Reads w' A (aL t.1)∧CR w' b (some (bs.drop t.2))
def ZG:Prop:=∀(w:World) (b:Nat) (bs:List Nat),bs.length≤10000→(∀x∈bs,x<256)→CR w b (some bs) →
 Calls prog 144 #[.pointer (some ⟨b,0,none⟩)] w fun e w'=>Ul w' b bs e (iY bs)∧w.grownBy w' (some b)
end Go.Proofs.YtgiicohbigiapaaGreat
