/- Contracts. -/
import Derived.Below
namespace Go.Proofs.YtgiicohbigiapaaGreat
open Go.RowKit
abbrev ah:=World
abbrev a7:=Option Addr
abbrev b1:=List Value
abbrev av(w w':World):Prop:=Below w.heap.size w w'
theorem I{p:Prop}(h:p):Go.RowKit.Hid p:=h
theorem bf:(∀(a:Act)(d:Tmp)(v:Value),a.put (some d) v=⟨a.tmps.setIfInBounds d v,a.defers⟩)/\(∀(a:Act)(v:Value),a.put none v=a)/\(∀(α:Type)(l:List α)(i:Nat)(x:α),l.toArray.setIfInBounds i x=(l.set i x).toArray)/\(∀(α:Type)(x y:α)(l:List α),(x::l).set 0 y=y::l)/\(∀(α:Type)(x y:α)(l:List α)(i:Nat),(x::l).set (i+1) y=x::l.set i y):=
 ⟨λ_ _ _=>rfl,λ_ _=>rfl,λ_ l i x=>List.setIfInBounds_toArray l i x,λ_ _ _ _=>rfl,λ_ _ _ _ _=>rfl⟩
theorem dM{n:Nat}{w:World}:Below n w w:=Below.refl n w
theorem b3{w aw aC:World}(h:Go.RowKit.Hid (Below w.heap.size w aw))(k:Below aw.heap.size aw aC):Go.RowKit.Hid (Below w.heap.size w aC):=Below.trans h (Below.mono k (Below.size h))
end Go.Proofs.YtgiicohbigiapaaGreat
