/-
  BlockOthers is proved: for any string, any array of two strings and any int the statement's function returns true, and its arguments read behind the call as they did before it.
  Conditions: none beyond the row's own.
  The frame (all but the walk) is made after the one that the kit's proof-skeleton.mjs writes.
-/
import Derived.Test.YtgiicohbigiapaaGreatRbx
import Derived.Test.YtgiicohbigiapaaGreatRbs
set_option maxRecDepth 100000
open Go.Proofs.Tryz
namespace Go.Proofs.YtgiicohbigiapaaGreat.blockOthers
open Go.ChangeShapes Go.WideShapes Go.ChangeAt Go.RowKit
open Go.ChangeMaps (open_string shut_string)
set_option linter.unusedVariables false
theorem own:ownKnob prog.godebug=none:=by kernel_rfl
theorem laidOut:laidOutB prog=true:=by kernel_rfl
theorem walk(s0:ByteArray)(x y:ByteArray)(a2:Int)(w:World)(w0:s0.size≤maxLen)(hx:x.size≤maxLen)(hy:y.size≤maxLen)(w2:(Lit.int .i64 a2).wf=true) :
  Calls prog 5 #[.string s0,.agg #[.string x,.string y],.int .i64 a2] w fun e w'=>e=.returned (.bool true)∧Below w.heap.size w w':=by
 have h2:=bounds_i64 w2;obtain⟨X,rfl,hX⟩:=of_string s0;obtain⟨D,rfl,hD⟩:=of_string x;obtain⟨E,rfl,hE⟩:=of_string y;rw[ay]at hx hy w0;unfold maxLen at hx hy w0;by_cases h:200<X.length∨100<D.length∨100<E.length
 ·exact EH X D E a2 w (by omega) (by omega) (by omega) h
 ·exact KH X D E a2 w (by omega) (by omega) (by omega) hX hD hE h2
theorem lifted(os:Os)(started:os.Started)(H:Type)(enc:TypeId×Value→H) :
  ReturnsInHanded {} Tryz.checked os 5 .any (Rows.blockOthersSpec.pre6 enc prog Tryz.f5 Rows.blockOthersRow.domain false) (Rows.blockOthersSpec.post enc prog Tryz.f5 false true false false):=by
 refine returnsInHanded_of_change (C:=Tryz.checked) own started (by kernel_rfl) func5
  (ChangeSpec.witness6 (enc:=enc) (C:=Tryz.checked) false ⟨#[],#[.string ⟨#[]⟩,.agg #[.string ⟨#[]⟩,.string ⟨#[]⟩],.int .i64 0],[]⟩ 8 (by kernel_rfl) (by kernel_rfl) (by kernel_rfl) (by kernel_rfl)) ?_
 intro W base args ds gs before hval0 hW hcnd _;have hval:∀(j:Nat) t v,Tryz.f5.params[j]?=some t→args[j]?=some v→Value.okWide prog W .any base t v:=hval0;have hW':=hW;obtain⟨p,q,hA0,hV,rfl,hfz,hnd⟩:=hW;have hA:DataW.TrodAll enc prog W 0 (fun _=>true) true Tryz.f5.params.toList args.toList ds p:=hA0;rw[params5]at hA hval;obtain⟨v0,vs0,d0,ds0,p0,q0,hargs,rfl,rfl,h0,r0⟩:=trodAll_cons hA;obtain⟨v1,vs1,d1,ds1,p1,q1,rfl,rfl,rfl,h1,r1⟩:=trodAll_cons r0;obtain⟨v2,vs2,d2,ds2,p2,q2,rfl,rfl,rfl,h2,r2⟩:=trodAll_cons r1;obtain⟨rfl,rfl,rfl⟩:=trodAll_nil r2;obtain rfl:args=#[v0,v1,v2]:=by cases args;simp_all
 obtain⟨rfl,rfl⟩:=trodVars_none hV;obtain⟨s0,rfl,rfl,rfl,w0⟩:=open_string underlying9 (hval 0 9 v0 rfl rfl) h0;have k1:=h1;have lt1:∀x∈p1,x.block<W.heap.size:=by obtain⟨m,hm⟩:=k1;exact DataW.trod_lt m _ _ _ hm
 obtain⟨x,y,rfl,hx,hy⟩:∃x y:ByteArray,v1=.agg #[.string x,.string y]∧x.size≤maxLen∧y.size≤maxLen:=by
  obtain⟨fuel,hf⟩:=h1;exact aau (hval 1 22 v1 rfl rfl) hf
 obtain⟨a2,rfl,rfl,rfl,w2⟩:=open_int underlying3 (hval 2 3 v2 rfl rfl) h2;clear hA0 hval0;refine(walk s0 x y a2 W w0 hx hy w2).mono fun e W' ⟨he,bel⟩=>?_
 subst he;exact⟨_,rfl,_,_,_,[],_,[],hW',trodAll_mk1 (shut_bool underlying4 _),(trodAll_cons_mk (shut_string underlying9 w0) (trodAll_cons_mk (Below.trod laidOut (by kernel_rfl) (of_decide_eq_true (by kernel_rfl)) k1 bel lt1) (trodAll_cons_mk (shut_int underlying3 w2) trodAll_mk0))),rfl,bel.frame _,fun h=>by cases h⟩
theorem over:Rows.blockOthersRow.holds Tryz.pinned (OpenSpec.ofChange Rows.blockOthersSpec):=
 OpenClaim.holds_of_wide 5 Tryz.f5 rfl rfl rfl rfl rfl rfl rfl ⟨rfl,rfl,rfl,rfl,rfl⟩ rfl rfl rfl rfl rfl (by kernel_rfl) func5 (by kernel_rfl)
  (of_decide_eq_true (by kernel_rfl)) (by unfold Func.isWrapper;first | (rw[if_pos (by decide +kernel)];kernel_rfl) | (rw[if_neg (by decide +kernel)];exact⟨rfl,rfl⟩))
  (fun os started H enc _=>lifted os started H enc)
theorem proved:Rows.BlockOthersSaid:=over
#print axioms proved
end Go.Proofs.YtgiicohbigiapaaGreat.blockOthers
